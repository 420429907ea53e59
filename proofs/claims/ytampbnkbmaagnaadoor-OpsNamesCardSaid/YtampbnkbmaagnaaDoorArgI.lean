/- What an argument that is a list of numbers holds. -/
import Derived.Test.YtampbnkbmaagnaaDoorLaw
import Derived.Test.YtampbnkbmaagnaaDoorNums
import Derived.Deep.Matrix
import Derived.Deep.Grids
namespace Go.Proofs.YtampbnkbmaagnaaDoor
open Go.RowKit Go.WideShapes Go.ChangeShapes Go.Deep

section
variable {H : Type} {enc : TypeId × Value → H} {W : World}

theorem lies_of_ints {k : IntKind} {a : Addr} {zs : List Int} {n : Nat} (hn : n ≤ zs.length) (h : ∀ i, i < zs.length → W.cell? (a.add i) = some (.int k (zs.getD i 0))) :
    Lies W W.heap.size (some a) ((zs.take n).map (Value.int k)) := fun hp => by
  have hz : 0 < zs.length := by simp at hp; omega
  obtain ⟨b, off, rfl, hc⟩ := ints_at h hz
  refine ⟨b, off, rfl, ?_, fun j u hu => ?_⟩
  · exact World.block_lt_of_cell? W _ (hc 0 hz)
  · have hj : j < (zs.take n).length := by
      have := (List.getElem?_eq_some_iff.1 hu).1; simpa using this
    have hj' : j < n ∧ j < zs.length := by rw [List.length_take] at hj; omega
    rw [hc j hj'.2]
    rw [← hu]
    simp [hj'.1, List.getD, hj'.2]

theorem open_list {base : Nat} {v : Value} {d : DataW H} {ps : List MemPlace} (hv : Value.okWide Tryd.prog W .any base 23 v) (h : DataW.Trod enc Tryd.prog W 0 (fun _ => true) true 23 v d ps) :
    ∃ l, IntsV W W.heap.size v l ∧ l.length ≤ maxLen ∧ ∀ x ∈ l, -9223372036854775808 ≤ x ∧ x ≤ 9223372036854775807 := by
  obtain ⟨a0, len, cap, rfl⟩ := okWide_slice Tryd.underlying23 hv
  obtain ⟨fuel, hf⟩ := h
  rcases open_ints Tryd.underlying23 Tryd.underlying3 (by kernel_rfl) hf with ⟨hcs, _⟩ | ⟨a, len', cap', zs, hcs, _, hl, hm, hz, _, hcell, hwz⟩
  · simp [Value.cells] at hcs
    obtain ⟨rfl, rfl, rfl⟩ := hcs
    exact ⟨[], ⟨none, 0, rfl, Lies.nil⟩, Nat.zero_le _, (fun u hu => by cases hu)⟩
  · simp [Value.cells] at hcs
    obtain ⟨rfl, rfl, rfl⟩ := hcs
    simp only [if_true] at hz
    have htl : (zs.take len).length = len := by rw [List.length_take]; omega
    refine ⟨zs.take len, ⟨some a, cap, by rw [htl], lies_of_ints (by omega) hcell⟩, by omega, fun u hu => ?_⟩
    have := hwz u (List.mem_of_mem_take hu)
    simpa [Lit.wf, IntKind.min, IntKind.max, IntKind.signed, IntKind.bits] using this
end

end Go.Proofs.YtampbnkbmaagnaaDoor
