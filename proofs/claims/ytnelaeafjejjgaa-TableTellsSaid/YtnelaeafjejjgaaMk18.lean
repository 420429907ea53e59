/- A list of numbers that a law makes; what an argument that is a list of numbers holds, with its room. -/
import Derived.Test.YtnelaeafjejjgaaBef18
import Derived.Test.YtnelaeafjejjgaaTn18
import Derived.Test.YtnelaeafjejjgaaBytV
namespace Go.Proofs.Ytnelaeafjejjgaa
set_option maxRecDepth 100000
open Go.RowKit Go.WideShapes Go.ChangeShapes Go.Deep

/-- A list of numbers of the call's own. -/
def OwnN (w : World) (base : Nat) (v : Value) (l : List Int) : Prop := w.ownsRow base 3 1 v l.length (i64s l)
theorem OwnN.nil (w : World) (base : Nat) : OwnN w base (.slice none 0 0) [] := World.ownsRow_nil w base _ 1
theorem OwnN.cap {w : World} {base : Nat} {v : Value} {l : List Int} (h : OwnN w base v l) : CapV w w.heap.size v l := by
  obtain ⟨A, c, e, hn, _, _, hl, _⟩ := Lies.of_own h
  exact ⟨A, c, e, hn, hl⟩
theorem OwnN.snoc {w : World} {base : Nat} {v : Value} {l l' : List Int} {x : Int} {n : Nat} (hn : n = l.length + 1) (h : w.ownsRow base 3 1 v n (i64s l ++ [.int .i64 x])) (e : l' = l ++ [x]) : OwnN w base v l' := by
  subst e hn
  unfold OwnN
  rw [List.length_append]
  simpa [i64s] using h
theorem CapV.later {w w' : World} {v : Value} {l : List Int} (h : CapV w w.heap.size v l) (hb : Below w.heap.size w w') : CapV w' w'.heap.size v l := (h.below hb).more hb.size
theorem CapV.drew {w : World} {B : Nat} {v : Value} {l : List Int} (h : CapV w B v l) (n : Nat) : CapV (w.drewN n) B v l := h.below (below_drewN (Below.refl _ _) n)

section
variable {H : Type} {enc : TypeId × Value → H} {W : World}
theorem open_listcap {base : Nat} {v : Value} {d : DataW H} {ps : List MemPlace} (hv : Value.okWide Try.prog W .any base 27 v) (h : DataW.Trod enc Try.prog W 0 (fun _ => true) true 27 v d ps) :
    ∃ l, CapV W W.heap.size v l ∧ l.length ≤ maxLen ∧ ∀ x ∈ l, -9223372036854775808 ≤ x ∧ x ≤ 9223372036854775807 := by
  obtain ⟨a0, len, cap, rfl⟩ := okWide_slice Try.underlying27 hv
  obtain ⟨fuel, hf⟩ := h
  rcases open_ints Try.underlying27 Try.underlying3 (by kernel_rfl) hf with ⟨hcs, _⟩ | ⟨a, len', cap', zs, hcs, _, hl, hm, hz, _, hcell, hwz⟩
  · simp [Value.cells] at hcs
    obtain ⟨rfl, rfl, rfl⟩ := hcs
    exact ⟨[], ⟨none, 0, rfl, Nat.le_refl _, Lies.nil⟩, Nat.zero_le _, (fun u hu => by cases hu)⟩
  · simp [Value.cells] at hcs
    obtain ⟨rfl, rfl, rfl⟩ := hcs
    simp only [if_true] at hz
    have htl : (zs.take len).length = len := by rw [List.length_take]; omega
    refine ⟨zs.take len, ⟨some a, cap, by rw [htl], by rw [htl]; exact hl, lies_of_ints (by omega) hcell⟩, by omega, fun u hu => ?_⟩
    have := hwz u (List.mem_of_mem_take hu)
    simpa [Lit.wf, IntKind.min, IntKind.max, IntKind.signed, IntKind.bits] using this
end

end Go.Proofs.Ytnelaeafjejjgaa
