/- Several objects beside one another, each in blocks of its own. -/
import Derived.Test.YtboelofkbhgmfaaStp
namespace Go.Proofs.Ytboelofkbhgmfaa
set_option maxRecDepth 100000
open Go.RowKit

/-- An object: what it says of a world, its blocks given. -/
abbrev HP := World → (Nat → Prop) → Prop
structure HGood (P : HP) : Prop where
  keep : ∀ {w w' : World} {S T : Nat → Prop}, P w S → Frm T w w' → (∀ i, S i → ¬ T i) → P w' S
  lt : ∀ {w : World} {S : Nat → Prop}, P w S → ∀ i, S i → i < w.heap.size
/-- A block of which one knows all that it holds. -/
def boxP (k : Nat) (o : Obj) : HP := fun w S => w.heap[k]? = some o ∧ ∀ i, S i ↔ i = k
theorem boxP.good (k : Nat) (o : Obj) : HGood (boxP k o) :=
  ⟨fun h hf hd => ⟨(hf.block k (Array.getElem?_eq_some_iff.1 h.1).1 (hd k ((h.2 k).2 rfl))).trans h.1, h.2⟩, fun h i hi => by rw [(h.2 i).1 hi]; exact (Array.getElem?_eq_some_iff.1 h.1).1⟩
/-- The objects ps, in blocks that the call made. -/
structure Sep (w wr : World) (ps : List HP) : Prop where
  ex : ∃ f : Nat → Nat → Prop, (∀ i (hi : i < ps.length), ps[i] wr (f i)) ∧ (∀ i j, i < ps.length → j < ps.length → i ≠ j → ∀ k, f i k → ¬ f j k) ∧ ∀ i, i < ps.length → ∀ k, f i k → w.heap.size ≤ k
  good : ∀ p ∈ ps, HGood p
  bl : Below w.heap.size w wr
section
variable {w wr w' : World} {ps : List HP} {P : HP} {S : Nat → Prop}
theorem Sep.nil (hb : Below w.heap.size w wr) : Sep w wr [] := ⟨⟨fun _ _ => False, fun i hi => by simp at hi, fun i j hi => by simp at hi, fun i hi => by simp at hi⟩, (fun p hp => by cases hp), hb⟩
theorem Sep.below (h : Sep w wr ps) (hb : Below wr.heap.size wr w') : Sep w w' ps := by
  obtain ⟨f, h1, h2, h3⟩ := h.ex
  exact ⟨⟨f, fun i hi => (h.good _ (List.getElem_mem hi)).keep (T := fun _ => False) (h1 i hi) (Frm.of_below hb) fun _ _ => id, h2, h3⟩, h.good, h.bl.trans (hb.mono h.bl.size)⟩
/-- One of them takes a step: the others stay. -/
theorem Sep.use (h : Sep w wr ps) (i : Nat) (hi : i < ps.length) : ∃ S : Nat → Prop, ps[i] wr S ∧ (∀ k, S k → w.heap.size ≤ k) ∧ ∀ (w' : World) (S' : Nat → Prop) (P' : HP), HGood P' → P' w' S' → Stp S S' wr w' → Sep w w' (ps.set i P') := by
  obtain ⟨f, h1, h2, h3⟩ := h.ex
  refine ⟨f i, h1 i hi, h3 i hi, fun w' S' P' hg hp hs => ⟨⟨fun j => if j = i then S' else f j, ?_, ?_, ?_⟩, ?_, h.bl.trans (hs.below (h3 i hi) h.bl.size)⟩⟩
  · intro j hj
    rw [List.length_set] at hj
    dsimp only
    by_cases e : j = i
    · subst e; rw [if_pos rfl, List.getElem_set_self]; exact hp
    · rw [if_neg e, List.getElem_set_ne (Ne.symm e)]
      exact (h.good _ (List.getElem_mem hj)).keep (h1 j hj) hs.frm (h2 j i hj hi e)
  · intro j k hj hk hjk
    rw [List.length_set] at hj hk
    dsimp only
    have hlt : ∀ m (hm : m < ps.length), ∀ x, f m x → x < wr.heap.size := fun m hm x hx => (h.good _ (List.getElem_mem hm)).lt (h1 m hm) x hx
    by_cases e : j = i
    · subst e
      rw [if_pos rfl, if_neg (Ne.symm hjk)]
      exact hs.apart (hlt k hk) (h2 j k hj hk hjk)
    · rw [if_neg e]
      by_cases e2 : k = i
      · subst e2
        rw [if_pos rfl]
        exact fun x hx hx2 => hs.apart (hlt j hj) (h2 k j hk hj (Ne.symm hjk)) x hx2 hx
      · rw [if_neg e2]; exact h2 j k hj hk hjk
  · intro j hj
    rw [List.length_set] at hj
    dsimp only
    by_cases e : j = i
    · subst e; rw [if_pos rfl]; exact hs.low (h3 j hj) h.bl.size
    · rw [if_neg e]; exact h3 j hj
  · intro p hp
    rcases List.mem_or_eq_of_mem_set hp with hp | rfl
    · exact h.good p hp
    · exact hg
/-- One more, in new blocks. -/
theorem Sep.add (h : Sep w wr ps) (hb : Below wr.heap.size wr w') (hg : HGood P) (hp : P w' S) (hS : ∀ k, S k → wr.heap.size ≤ k) : Sep w w' (ps ++ [P]) := by
  obtain ⟨f, h1, h2, h3⟩ := (h.below hb).ex
  obtain ⟨f0, k1, k2, k3⟩ := h.ex
  have hlt : ∀ m (hm : m < ps.length), ∀ x, f0 m x → x < wr.heap.size := fun m hm x hx => (h.good _ (List.getElem_mem hm)).lt (k1 m hm) x hx
  refine ⟨⟨fun j => if j = ps.length then S else f0 j, ?_, ?_, ?_⟩, ?_, h.bl.trans (hb.mono h.bl.size)⟩
  · intro j hj
    rw [List.length_append, List.length_singleton] at hj
    dsimp only
    by_cases e : j = ps.length
    · subst e; rw [if_pos rfl, List.getElem_append_right (Nat.le_refl _)]; simpa using hp
    · have hj' : j < ps.length := by omega
      rw [if_neg e, List.getElem_append_left hj']
      exact (h.good _ (List.getElem_mem hj')).keep (T := fun _ => False) (k1 j hj') (Frm.of_below hb) fun _ _ => id
  · intro j k hj hk hjk x
    rw [List.length_append, List.length_singleton] at hj hk
    dsimp only
    by_cases e : j = ps.length
    · subst e
      rw [if_pos rfl, if_neg (Ne.symm hjk)]
      exact fun h4 h5 => by have := hS x h4; have := hlt k (by omega) x h5; omega
    · rw [if_neg e]
      by_cases e2 : k = ps.length
      · subst e2
        rw [if_pos rfl]
        exact fun h4 h5 => by have := hS x h5; have := hlt j (by omega) x h4; omega
      · rw [if_neg e2]; exact k2 j k (by omega) (by omega) hjk x
  · intro j hj
    rw [List.length_append, List.length_singleton] at hj
    dsimp only
    by_cases e : j = ps.length
    · subst e; rw [if_pos rfl]; exact fun x hx => Nat.le_trans h.bl.size (hS x hx)
    · rw [if_neg e]; exact k3 j (by omega)
  · intro p hp
    rcases List.mem_append.1 hp with hp | hp
    · exact h.good p hp
    · rw [List.mem_singleton.1 hp]; exact hg
theorem Sep.box (h : Sep w wr ps) (o : Obj) : Sep w (wr.alloc o) (ps ++ [boxP wr.heap.size o]) :=
  h.add (S := fun k => k = wr.heap.size) (below_alloc wr o) (boxP.good _ _) ⟨heap_alloc_new wr o, fun _ => Iff.rfl⟩ (fun k e => by rw [e]; exact Nat.le_refl _)
/-- The first n of them alone. -/
theorem Sep.take (h : Sep w wr ps) (n : Nat) : Sep w wr (ps.take n) := by
  obtain ⟨f, h1, h2, h3⟩ := h.ex
  have hl : ∀ i, i < (ps.take n).length → i < ps.length := fun i hi => by rw [List.length_take] at hi; omega
  refine ⟨⟨f, fun i hi => ?_, fun i j hi hj => h2 i j (hl i hi) (hl j hj), fun i hi => h3 i (hl i hi)⟩, fun p hp => h.good p (List.mem_of_mem_take hp), h.bl⟩
  rw [List.getElem_take]; exact h1 i (hl i hi)
theorem Sep.at (h : Sep w wr ps) (i : Nat) (hi : i < ps.length) : ∃ S : Nat → Prop, ps[i] wr S := by
  obtain ⟨f, h1, _⟩ := h.ex; exact ⟨f i, h1 i hi⟩
end

end Go.Proofs.Ytboelofkbhgmfaa
