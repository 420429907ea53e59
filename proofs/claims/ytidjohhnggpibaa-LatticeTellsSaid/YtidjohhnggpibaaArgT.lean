/- What a table argument holds. -/
import Derived.Test.YtidjohhnggpibaaLaw
import Derived.Test.YtidjohhnggpibaaMake
import Derived.Deep.Matrix
import Derived.Deep.Grids
namespace Go.Proofs.Ytidjohhnggpibaa
open Go.RowKit Go.WideShapes Go.ChangeShapes Go.Deep

section
variable {H : Type} {enc : TypeId × Value → H} {W : World}

theorem lies_of_bools {a : Addr} {n c : Nat} {Bf : Nat → Bool} (hn : n ≤ c) (h : ∀ i, i < c → W.cell? (a.add i) = some (.bool (Bf i))) :
    Lies W W.heap.size (some a) (bls ((List.range n).map Bf)) := fun hp => by
  have hz : 0 < n := by simpa [bls] using hp
  obtain ⟨b, off, spot⟩ := a
  have h0 := h 0 (by omega)
  have hspot : spot = none := by simpa [Addr.add] using World.cell?_spot h0
  subst hspot
  refine ⟨b, off, rfl, ?_, fun j u hu => ?_⟩
  · rw [Go.WideShapes.add_plain] at h0
    exact World.block_lt_of_cell? W _ h0
  · have hj : j < n := by
      have := (List.getElem?_eq_some_iff.1 hu).1; simpa [bls] using this
    rw [← Go.WideShapes.add_plain, h j (by omega), ← hu]
    simp [bls, hj]

theorem open_table {base : Nat} {v : Value} {d : DataW H} {ps : List MemPlace} (hv : Value.okWide Try.prog W .any base 22 v) (h : DataW.Trod enc Try.prog W 0 (fun _ => true) true 22 v d ps) :
    ∃ T, TabV W W.heap.size v T := by
  obtain ⟨a0, len, cap, rfl⟩ := okWide_slice Try.underlying22 hv
  obtain ⟨fuel, hf⟩ := h
  rcases open_bool_rows Try.underlying22 Try.underlying26 Try.underlying4 (by kernel_rfl) (by kernel_rfl) hf with ⟨hcs, _⟩ | ⟨a, len', cap', A, L, C, Z, hcs, _, hl, hm, _, hr⟩
  · simp [Value.cells] at hcs
    obtain ⟨rfl, rfl, rfl⟩ := hcs
    exact ⟨[], none, 0, [], rfl, rfl, Lies.nil, fun r hr => by cases hr⟩
  · simp [Value.cells] at hcs
    obtain ⟨rfl, rfl, rfl⟩ := hcs
    refine ⟨_, some a, cap, (List.range len).map fun r => ⟨A r, C r, (List.range (L r)).map (Z r)⟩, by simp, rfl, ?_, ?_⟩
    · intro hp
      have hp' : 0 < len := by simpa using hp
      obtain ⟨b, off, spot⟩ := a
      have h0 := (hr 0 (by omega)).1
      have hspot : spot = none := by simpa [Addr.add] using World.cell?_spot h0
      subst hspot
      refine ⟨b, off, rfl, ?_, fun j u hu => ?_⟩
      · rw [Go.WideShapes.add_plain] at h0
        exact World.block_lt_of_cell? W _ h0
      · have hj : j < len := by
          have := (List.getElem?_eq_some_iff.1 hu).1; simpa using this
        have hc := hr j (by omega)
        rw [← Go.WideShapes.add_plain, hc.1, ← hu]
        simp [hj, Rw.hdr]
    · intro r hrm
      obtain ⟨j, hj, rfl⟩ := List.mem_map.1 hrm
      have hj' : j < len := by simpa using hj
      obtain ⟨h1, h2, h3, h4, h5⟩ := hr j (by omega)
      dsimp only
      cases hA : A j with
      | none =>
        have hC := h4 hA
        intro hp
        simp [bls] at hp; omega
      | some a' =>
        obtain ⟨_, hc⟩ := h5 a' hA
        exact lies_of_bools h2 hc
end

end Go.Proofs.Ytidjohhnggpibaa
