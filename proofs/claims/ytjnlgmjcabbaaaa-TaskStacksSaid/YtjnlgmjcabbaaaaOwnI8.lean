/- Code that a call makes, an instruction at a time. -/
import Derived.Test.YtjnlgmjcabbaaaaImgV8
namespace Go.Proofs.Ytjnlgmjcabbaaaa
set_option maxRecDepth 100000
open Go.RowKit

theorem inf_instr : (Try.prog.info? 32).map (fun i => (i.zero, i.size, i.bytes)) = some (some (.agg #[.int .i64 0, .int .i32 0]), 2, 16) := by kernel_rfl
/-- The slice v is the call's own and holds f. -/
def OwnI (w : World) (base : Nat) (v : Value) (f : CodeL) : Prop := w.ownsRow base 32 2 v f.length (flat f)
theorem flat_snoc (f : CodeL) (a b : Int) : flat (f ++ [(a, b)]) = flat f ++ [.int .i64 a, .int .i32 b] := by simp [flat]
theorem OwnI.nil (w : World) (base : Nat) : OwnI w base (.slice none 0 0) [] := World.ownsRow_nil w base _ 2
theorem OwnI.snoc {w : World} {base : Nat} {v : Value} {f : CodeL} {a b : Int} (h : w.ownsRow base 32 2 v (f.length + 1) (flat f ++ [.int .i64 a, .int .i32 b])) : OwnI w base v (f ++ [(a, b)]) := by
  unfold OwnI; rw [flat_snoc, List.length_append]; exact h
theorem OwnI.below {w w' : World} {base : Nat} {v : Value} {f : CodeL} (h : OwnI w base v f) (hb : Below w.heap.size w w') : OwnI w' base v f :=
  h.kept (row := none) ⟨hb.os, hb.tape, hb.output, hb.size, fun k hk _ => hb.block k hk⟩ (by cases hv : v.ownBlock <;> simp)
theorem OwnI.fresh (w : World) (base : Nat) (f : CodeL) (hb : base ≤ w.heap.size) (hf : f.length ≤ 1000) : OwnI (w.alloc (.cells (flat f).toArray 32)) base (.slice (some ⟨w.heap.size, 0, none⟩) f.length f.length) f :=
  ⟨flat_length f, .inr ⟨w.heap.size, f.length, _, rfl, hb, heap_alloc_new w _, Nat.le_refl _, by unfold maxLen; omega, by simp [flat_length], by rw [List.take_of_length_le (by simp [flat_length])]⟩⟩
theorem OwnI.slice {w : World} {base : Nat} {v : Value} {f : CodeL} (h : OwnI w base v f) : ∃ A c, v = .slice A f.length c := by
  rcases h.2 with ⟨rfl, h0⟩ | ⟨g, cap, _, rfl, _⟩
  · exact ⟨none, 0, by rw [h0]⟩
  · exact ⟨_, cap, rfl⟩
theorem one_cells (a b : Int) : ∀ u ∈ [Value.int .i64 a, Value.int .i32 b], u.oneCell' = true := by
  intro u hu; simp at hu; rcases hu with rfl | rfl <;> rfl

end Go.Proofs.Ytjnlgmjcabbaaaa
