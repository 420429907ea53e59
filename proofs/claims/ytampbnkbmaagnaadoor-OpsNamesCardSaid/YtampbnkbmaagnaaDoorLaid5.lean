/- What the row's condition on the package's variable gives: its cells hold the names; a world that meets it. -/
import Derived.Test.YtampbnkbmaagnaaDoorNames
import Derived.Test.YtampbnkbmaagnaaDoorLaw
import Derived.LaidMore
import Derived.LaidLaws
import Derived.MakeChecks
import Derived.ChangeArms
import Derived.Stop.Joined
namespace Go.Proofs.YtampbnkbmaagnaaDoor
open Go.RowKit Go.WideShapes Go.ChangeShapes

def laidL : List (String × DataW Unit) := [("confidant/ops.names", Rows.laid_confidant_ops_names)]
theorem gNames : Tryd.prog.globalNamed "confidant/ops.names" = some 0 := by kernel_rfl
theorem tNames : (Tryd.prog.globals[0]?).map (·.type) = some 35 := by kernel_rfl
theorem laid_eq : (Rows.laid_confidant_ops_names : DataW Unit) = .agg (nmsL.map fun l => .lit (.string l)) := rfl
theorem door_met (os : Os) (args : Array Value) : laidMetH Tryd.prog laidL ((World.doorLaid Tryd.prog 14 os).forCall (fun _ _ => 0) ⟨#[], args, []⟩).memory :=
  laidMetH_of_parts3 (fuel := 8) (laidMet_of_run' 8 (by kernel_rfl) (by kernel_rfl)) (by kernel_rfl) (by kernel_rfl)

theorem names_of_laid {W : World} (h : laidMetH Tryd.prog laidL W) : NamesIn W := by
  rw [MakeChecks.laidMetH_plain _ _ _ (by kernel_rfl)] at h
  obtain ⟨ps, ⟨g0, t0, cs0, f0, p0, q0, hg0, ht0, hv0, hd0, _, _⟩, _, _⟩ := h
  obtain rfl := Option.some.inj (gNames.symm.trans hg0)
  obtain rfl := Option.some.inj (tNames.symm.trans ht0)
  have hsize : 0 < W.heap.size := by
    simp only [World.var?, gNames, Option.bind_some] at hv0
    split at hv0
    · rename_i e; exact (Array.getElem?_eq_some_iff.1 e).1
    · cases hv0
  refine ⟨hsize, fun i hi => ?_⟩
  obtain ⟨xs, m1, rfl, hx1, hlen, hn3, hel⟩ := DataW.trod_array Tryd.underlying35 hd0
  have c1 : Tryd.prog.cellsOf 9 = 1 := by kernel_rfl
  have hi2 := hel i hi
  rw [c1, Nat.mul_one] at hi2
  have hxi : xs[i]? = some (xs[i]'(by omega)) := List.getElem?_eq_getElem (by omega)
  rw [hxi] at hi2
  obtain ⟨s, e1, e2, _⟩ := DataW.trod_string Tryd.underlying9 hi2
  have hx2 : nmsL.map (fun l => (DataW.lit (.string l) : DataW Unit)) = xs.map (·.1) := by
    have := congrArg Prod.fst hx1
    rw [laid_eq] at this
    simpa using this
  have hx3 : (nmsL.map (fun l => (DataW.lit (.string l) : DataW Unit)))[i]? = (xs.map (·.1))[i]? := by rw [hx2]
  rw [List.getElem?_map, List.getElem?_map, hxi, e2] at hx3
  have hs : s = nm i := by
    refine bytes_inj ?_
    unfold nm
    rw [List.getD_eq_getElem?_getD]
    cases hc : nmsL[i]? with
    | none => rw [hc] at hx3; simp at hx3
    | some l => rw [hc] at hx3; simpa using hx3.symm
  have hc : (cs0.toList.drop i)[0]? = some (.string s) := by
    have := congrArg (·[0]?) e1
    simpa [List.getElem?_take] using this
  rw [World.var?_cell gNames hv0 i, ← hs]
  rw [List.getElem?_drop, Nat.add_zero, Array.getElem?_toList] at hc
  exact hc

end Go.Proofs.YtampbnkbmaagnaaDoor
