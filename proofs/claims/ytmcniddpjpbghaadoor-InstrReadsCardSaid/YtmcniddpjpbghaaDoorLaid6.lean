/- What the rows' condition on the package-level variables gives; a world that meets it. -/
import Derived.Test.YtmcniddpjpbghaaDoorBuild
import Derived.Test.YtmcniddpjpbghaaDoorLaw
import Derived.LaidMore
import Derived.LaidLaws
import Derived.MakeChecks
import Derived.ChangeArms
import Derived.Stop.Joined
import Derived.Stop.LaidErr
namespace Go.Proofs.YtmcniddpjpbghaaDoor
set_option maxRecDepth 100000
open Go.RowKit Go.WideShapes Go.ChangeShapes

def laidL : List (String × DataW Unit) := [("confidant/ops.names", Rows.laid_confidant_ops_names), ("math/bits.deBruijn32tab", Rows.laid_math_bits_deBruijn32tab), ("math/bits.deBruijn64tab", Rows.laid_math_bits_deBruijn64tab), ("internal/strconv.uint64pow10", Rows.laid_internal_strconv_uint64pow10), ("strconv.ErrRange", Rows.laid_strconv_ErrRange), ("strconv.ErrSyntax", Rows.laid_strconv_ErrSyntax)]
theorem gNames : Tryd.prog.globalNamed "confidant/ops.names" = some 0 := by kernel_rfl
theorem tNames : (Tryd.prog.globals[0]?).map (·.type) = some 100 := by kernel_rfl
theorem gPow : Tryd.prog.globalNamed "internal/strconv.uint64pow10" = some 4 := by kernel_rfl
theorem tPow : (Tryd.prog.globals[4]?).map (·.type) = some 148 := by kernel_rfl
theorem gRng : Tryd.prog.globalNamed "strconv.ErrRange" = some 3 := by kernel_rfl
theorem tRng : (Tryd.prog.globals[3]?).map (·.type) = some 66 := by kernel_rfl
theorem gSyn : Tryd.prog.globalNamed "strconv.ErrSyntax" = some 2 := by kernel_rfl
theorem tSyn : (Tryd.prog.globals[2]?).map (·.type) = some 66 := by kernel_rfl
theorem starErr : "*" ++ "errors.errorString" = "*errors.errorString" := by decide
theorem cellsErr : Tryd.prog.cellsOf 155 = 1 := by kernel_rfl
theorem cellsStr : Tryd.prog.cellsOf 9 = 1 := by kernel_rfl
theorem rowErr (u : TypeId) (h : Tryd.prog.typeName? 3 u = some "*errors.errorString") : u = 153 :=
  typeName_ptr_named (nm := "errors.errorString") (by rw [starErr]; kernel_rfl) (by kernel_rfl) (by decide) u (by rw [starErr]; exact h)
theorem laid_eq : (Rows.laid_confidant_ops_names : DataW Unit) = .agg (nmsL.map fun l => .lit (.string l)) := rfl
theorem door_met (os : Os) (args : Array Value) : laidMetH Tryd.prog laidL ((World.doorLaid Tryd.prog 77 os).forCall (fun _ _ => 0) ⟨#[], args, []⟩).memory :=
  laidMetH_of_parts3 (fuel := 8) (laidMet_of_run' 8 (by kernel_rfl) (by kernel_rfl)) (by kernel_rfl) (by kernel_rfl)

theorem names_of_met {W : World} {r : List (String × DataW Unit)} (h : laidMet Tryd.prog (("confidant/ops.names", Rows.laid_confidant_ops_names) :: r) W) : NamesIn W := by
  obtain ⟨ps, ⟨g0, t0, cs0, f0, p0, q0, hg0, ht0, hv0, hd0, _, _⟩, _, _⟩ := h
  obtain rfl := Option.some.inj (gNames.symm.trans hg0)
  obtain rfl := Option.some.inj (tNames.symm.trans ht0)
  have hsize : 0 < W.heap.size := by
    simp only [World.var?, gNames, Option.bind_some] at hv0
    split at hv0
    · rename_i e; exact (Array.getElem?_eq_some_iff.1 e).1
    · cases hv0
  refine ⟨hsize, fun i hi => ?_⟩
  obtain ⟨xs, m1, rfl, hx1, hlen, hn3, hel⟩ := DataW.trod_array Tryd.underlying100 hd0
  have hi2 := hel i hi
  rw [cellsStr, Nat.mul_one] at hi2
  have hxi : xs[i]? = some (xs[i]'(by omega)) := List.getElem?_eq_getElem (by omega)
  rw [hxi] at hi2
  obtain ⟨s, e1, e2, _⟩ := DataW.trod_string Tryd.underlying9 hi2
  have hx2 : nmsL.map (fun l => (DataW.lit (.string l) : DataW Unit)) = xs.map (·.1) := by
    have := congrArg Prod.fst hx1
    rw [laid_eq] at this
    simpa using this
  have hx3 : (nmsL.map (fun l => (DataW.lit (.string l) : DataW Unit)))[i]? = (xs.map (·.1))[i]? := by rw [hx2]
  rw [List.getElem?_map, List.getElem?_map, hxi, e2] at hx3
  have hs : s = nm i := by
    refine bytes_inj ?_
    unfold nm
    rw [List.getD_eq_getElem?_getD]
    cases hc : nmsL[i]? with
    | none => rw [hc] at hx3; simp at hx3
    | some l => rw [hc] at hx3; simpa using hx3.symm
  have hc : (cs0.toList.drop i)[0]? = some (.string s) := by
    have := congrArg (·[0]?) e1
    simpa [List.getElem?_take] using this
  rw [World.var?_cell gNames hv0 i, ← hs]
  rw [List.getElem?_drop, Nat.add_zero, Array.getElem?_toList] at hc
  exact hc

theorem vars_of_laid {W : World} (h : laidMetH Tryd.prog laidL W) : VarsIn W := by
  rw [MakeChecks.laidMetH_plain _ _ _ (by kernel_rfl)] at h
  have h4 := h.tail.tail.tail
  obtain ⟨a0, s0, hv0, -, -, -⟩ := laid_sentinel h4.tail gRng tRng Tryd.underlying66 rowErr Tryd.underlying153 Tryd.underlying155 rfl rfl Tryd.underlying9 cellsErr cellsStr
  obtain ⟨a1, s1, hv1, -, -, -⟩ := laid_sentinel h4.tail.tail gSyn tSyn Tryd.underlying66 rowErr Tryd.underlying153 Tryd.underlying155 rfl rfl Tryd.underlying9 cellsErr cellsStr
  refine ⟨names_of_met h, ?_, ⟨153, .pointer (some a1), ?_⟩, ⟨153, .pointer (some a0), ?_⟩⟩
  · exact Lib.tabIs_of_head gPow tPow Tryd.underlying148 Tryd.underlying58 (by kernel_rfl) (by kernel_rfl) (show laidMet Tryd.prog (("internal/strconv.uint64pow10", Lib.tabData .u64 Lib.pow10Tab) :: _) W from h4)
  · have h0 := World.var?_cell gSyn hv1 0
    simpa using h0
  · have h0 := World.var?_cell gRng hv0 0
    simpa using h0

end Go.Proofs.YtmcniddpjpbghaaDoor
