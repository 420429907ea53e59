/- What an object owns behind a step, out of what it owned ahead of it. -/
import Derived.Test.YtmcphlklknfbmaaFrm
namespace Go.Proofs.Ytmcphlklknfbmaa
set_option maxRecDepth 100000
open Go.RowKit

/-- All old blocks but those of S are as they were; what the object owns behind (S') is old and was its own, or new. -/
structure Stp (S S' : Nat → Prop) (w w' : World) : Prop where
  frm : Frm S w w'
  old : ∀ i, i < w.heap.size → S' i → S i
  lt : ∀ i, S' i → i < w'.heap.size
section
variable {S S' S1 S2 T : Nat → Prop} {w w' a b c : World} {lo : Nat}
theorem Stp.refl (h : ∀ i, S i → i < w.heap.size) : Stp S S w w := ⟨Frm.refl _ _, fun _ _ h => h, h⟩
theorem Stp.trans (h : Stp S S1 a b) (k : Stp S1 S2 b c) : Stp S S2 a c :=
  ⟨h.frm.trans k.frm h.old, fun i hi h2 => h.old i hi (k.old i (Nat.lt_of_lt_of_le hi h.frm.size) h2), k.lt⟩
theorem Stp.low (h : Stp S S' w w') (hl : ∀ i, S i → lo ≤ i) (hw : lo ≤ w.heap.size) : ∀ i, S' i → lo ≤ i := fun i hi => by
  by_cases hlt : i < w.heap.size
  · exact hl i (h.old i hlt hi)
  · omega
theorem Stp.apart (h : Stp S S' w w') (hT : ∀ i, T i → i < w.heap.size) (hd : ∀ i, S i → ¬ T i) : ∀ i, S' i → ¬ T i := fun i hi ht => hd i (h.old i (hT i ht) hi) ht
theorem Stp.below (h : Stp S S' w w') (hl : ∀ i, S i → lo ≤ i) (hw : lo ≤ w.heap.size) : Below lo w w' := h.frm.below hw fun k _ hk => hl k hk
theorem Stp.of_below (hb : Below w.heap.size w w') (h : ∀ i, S i → i < w.heap.size) : Stp S S w w' :=
  ⟨Frm.of_below hb, fun _ _ h => h, fun i hi => Nat.lt_of_lt_of_le (h i hi) hb.size⟩
end

theorem heapNewS {w : World} {o : Obj} {k : Nat} (h : k = w.heap.size) : (w.alloc o).heap[k]? = some o := by subst h; exact heap_alloc_new w o
theorem heapOldS {w : World} {o x : Obj} {k : Nat} (h : w.heap[k]? = some x) : (w.alloc o).heap[k]? = some x := by
  rw [heap_alloc_old w o (Array.getElem?_eq_some_iff.1 h).1]; exact h
theorem heapLaterS {w w' : World} {B : Nat} {k : Nat} {x : Obj} (hb : Below B w w') (hk : k < B) (h : w.heap[k]? = some x) : w'.heap[k]? = some x := (hb.block _ hk).trans h

end Go.Proofs.Ytmcphlklknfbmaa
