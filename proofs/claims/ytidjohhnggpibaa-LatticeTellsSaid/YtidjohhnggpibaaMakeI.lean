/- Tables of numbers that a call makes, row by row. -/
import Derived.Test.YtidjohhnggpibaaMake
namespace Go.Proofs.Ytidjohhnggpibaa
open Go.RowKit

def rowI (n : Nat) (z : Nat → Nat) : List Nat := (List.range n).map z
theorem rowI_length (n : Nat) (z : Nat → Nat) : (rowI n z).length = n := by simp [rowI]
theorem rowI_succ (n : Nat) (z : Nat → Nat) : rowI (n + 1) z = rowI n z ++ [z n] := by simp [rowI, List.range_succ]

/-- k rows of n numbers, each in a block of its own. -/
structure RowsI (w : World) (base n k : Nat) (G C : Nat → Nat) (Z : Nat → Nat → Nat) : Prop where
  lo : ∀ j, j < k → base ≤ G j
  blk : ∀ j, j < k → ∃ cur : Array Value, w.heap[G j]? = some (.cells cur 3 (0, 0)) ∧ ∀ i, i < n → cur[i]? = some (.int .i64 (Z j i : Nat))

/-- A square table of numbers. -/
structure GridI (w : World) (lo B b n : Nat) (G C : Nat → Nat) (Z : Nat → Nat → Nat) : Prop where
  lt : lo ≤ b ∧ b < B
  glt : ∀ j, j < n → lo ≤ G j ∧ G j < B
  top : ∀ j, j < n → w.cell? ⟨b, j, none⟩ = some (.slice (some ⟨G j, 0, none⟩) n (C j))
  cel : ∀ j i, j < n → i < n → w.cell? ⟨G j, i, none⟩ = some (.int .i64 (Z j i : Nat))
theorem GridI.keep {w w' : World} {lo B b n : Nat} {G C : Nat → Nat} {Z : Nat → Nat → Nat} (h : GridI w lo B b n G C Z) (hk : ∀ b o, lo ≤ b → b < B → w'.cell? ⟨b, o, none⟩ = w.cell? ⟨b, o, none⟩) : GridI w' lo B b n G C Z :=
  ⟨h.lt, h.glt, fun j hj => (hk b j h.lt.1 h.lt.2).trans (h.top j hj), fun j i hj hi => (hk (G j) i (h.glt j hj).1 (h.glt j hj).2).trans (h.cel j i hj hi)⟩
theorem GridI.below {w w' : World} {lo B b n : Nat} {G C : Nat → Nat} {Z : Nat → Nat → Nat} (h : GridI w lo B b n G C Z) (hb : Below B w w') : GridI w' lo B b n G C Z := h.keep fun b o _ hlt => hb.cell (p := ⟨b, o, none⟩) hlt
theorem GridI.more {w : World} {lo B B' b n : Nat} {G C : Nat → Nat} {Z : Nat → Nat → Nat} (h : GridI w lo B b n G C Z) (hb : B ≤ B') : GridI w lo B' b n G C Z :=
  ⟨⟨h.lt.1, Nat.lt_of_lt_of_le h.lt.2 hb⟩, fun j hj => ⟨(h.glt j hj).1, Nat.lt_of_lt_of_le (h.glt j hj).2 hb⟩, h.top, h.cel⟩
theorem GridI.less {w : World} {lo lo' B b n : Nat} {G C : Nat → Nat} {Z : Nat → Nat → Nat} (h : GridI w lo B b n G C Z) (hb : lo' ≤ lo) : GridI w lo' B b n G C Z :=
  ⟨⟨Nat.le_trans hb h.lt.1, h.lt.2⟩, fun j hj => ⟨Nat.le_trans hb (h.glt j hj).1, (h.glt j hj).2⟩, h.top, h.cel⟩

section
variable {w w' : World} {base n k : Nat} {G C : Nat → Nat} {Z : Nat → Nat → Nat}

theorem RowsI.lt (h : RowsI w base n k G C Z) {j : Nat} (hj : j < k) : G j < w.heap.size := by
  obtain ⟨cur, hb, _⟩ := h.blk j hj
  exact (Array.getElem?_eq_some_iff.1 hb).1
theorem RowsI.keep (h : RowsI w base n k G C Z) (hk : ∀ j, j < k → w'.heap[G j]? = w.heap[G j]?) : RowsI w' base n k G C Z :=
  ⟨h.lo, fun j hj => by obtain ⟨cur, hb, hc⟩ := h.blk j hj; exact ⟨cur, (hk j hj).trans hb, hc⟩⟩
theorem RowsI.below (h : RowsI w base n k G C Z) (hb : Below w.heap.size w w') : RowsI w' base n k G C Z := h.keep fun _ hj => hb.block _ (h.lt hj)
theorem RowsI.cell (h : RowsI w base n k G C Z) {j i : Nat} (hj : j < k) (hi : i < n) : w.cell? ⟨G j, i, none⟩ = some (.int .i64 (Z j i : Nat)) := by
  obtain ⟨cur, hb, hc⟩ := h.blk j hj
  rw [cell_blk hb]; exact hc i hi
theorem RowsI.ne_own (h : RowsI w base n k G C Z) {b0 m : Nat} {v : Value} {xs : List Value} (ho : w.ownsRow b0 41 1 v m xs) {j : Nat} (hj : j < k) : v.ownBlock ≠ some (G j) := by
  obtain ⟨cur, hb, _⟩ := h.blk j hj
  rcases ho.2 with ⟨rfl, _⟩ | ⟨g', cap, cur', rfl, _, hh, _⟩
  · simp [Value.ownBlock]
  · intro he
    have e : g' = G j := by simpa [Value.ownBlock] using he
    subst e
    rw [hb] at hh
    injection hh with hh
    injection hh with _ ht
    exact absurd ht (by decide)
theorem RowsI.grown (h : RowsI w base n k G C Z) {b0 m : Nat} {v : Value} {xs : List Value} (ho : w.ownsRow b0 41 1 v m xs) (hg : w.grownBy w' v.ownBlock) : RowsI w' base n k G C Z :=
  h.keep fun _ hj => hg.block _ (h.lt hj) (fun e => h.ne_own ho hj e.symm)
/-- One row more. -/
theorem RowsI.snoc (h : RowsI w base n k G C Z) {b0 : Nat} {v : Value} (hb0 : base ≤ b0) (hn : 0 < n) (ho : w.ownsRow b0 3 1 v n (i64s (nats (rowI n (Z k))))) :
    ∃ g c, v = .slice (some ⟨g, 0, none⟩) n c ∧ RowsI w base n (k + 1) (fun j => if j = k then g else G j) (fun j => if j = k then c else C j) Z := by
  rcases ho.2 with ⟨_, h0⟩ | ⟨g, cap, cur, rfl, hb, hg, hnc, _, hcs, hx⟩
  · omega
  · refine ⟨g, cap, rfl, ⟨fun j hj => ?_, fun j hj => ?_⟩⟩
    · split
      · omega
      · exact h.lo j (by omega)
    · by_cases e : j = k
      · subst e
        simp only [if_true]
        refine ⟨cur, hg, fun i hi => ?_⟩
        have h1 : (cur.toList.take (n * 1))[i]? = some (.int .i64 (Z j i : Nat)) := by
          rw [hx]
          simp [i64s, nats, rowI, hi]
        rw [List.getElem?_take, if_pos (by omega)] at h1
        simpa using h1
      · simp only [if_neg e]
        exact h.blk j (by omega)
theorem rowsI_none (w : World) (base n : Nat) (G C : Nat → Nat) (Z : Nat → Nat → Nat) : RowsI w base n 0 G C Z := ⟨fun _ h => by omega, fun _ h => by omega⟩
end

/-- A table of numbers that the call has made: rows of its own, in blocks from base on. -/
structure FI (w : World) (base : Nat) (v : Value) (n k : Nat) (G C : Nat → Nat) (Z : Nat → Nat → Nat) : Prop where
  own : w.ownsRow base 41 1 v k (hdrs n k G C)
  rows : RowsI w base n k G C Z

section
variable {w w' : World} {base n k : Nat} {v : Value} {G C : Nat → Nat} {Z : Nat → Nat → Nat}
theorem FI.none_ (w : World) (base n : Nat) (G C : Nat → Nat) (Z : Nat → Nat → Nat) : FI w base (.slice none 0 0) n 0 G C Z := ⟨World.ownsRow_nil _ _ _ _, rowsI_none _ _ _ _ _ _⟩
theorem FI.below (h : FI w base v n k G C Z) (hb : Below w.heap.size w w') : FI w' base v n k G C Z := ⟨own_below h.own hb, h.rows.below hb⟩
theorem FI.grid (h : FI w base v n n G C Z) (hn : 0 < n) : ∃ g c, v = .slice (some ⟨g, 0, none⟩) n c ∧ GridI w base w.heap.size g n G C Z := by
  have ho := h.own
  rcases ho.2 with ⟨_, h0⟩ | ⟨g, cap, cur, rfl, hb, hg, _⟩
  · omega
  · refine ⟨g, cap, rfl, ⟨hb, (Array.getElem?_eq_some_iff.1 hg).1⟩, fun j hj => ⟨h.rows.lo j hj, h.rows.lt hj⟩, fun j hj => ?_, fun j i hj hi => h.rows.cell hj hi⟩
    rw [ho.cellAt j (by omega)]
    simp [hdrs, hj]
end
theorem inf_rowI : (Try.prog.info? 41).map (fun i => (i.zero, i.size, i.bytes)) = some (some (.slice none 0 0), 1, 24) := by kernel_rfl

end Go.Proofs.Ytidjohhnggpibaa
