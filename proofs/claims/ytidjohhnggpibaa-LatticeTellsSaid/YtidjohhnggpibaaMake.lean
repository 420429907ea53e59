/- Tables that a call makes, row by row. -/
import Derived.Test.YtidjohhnggpibaaExt2
import Derived.Laws.OwnMore
namespace Go.Proofs.Ytidjohhnggpibaa
open Go.RowKit

def hdrs (n k : Nat) (G C : Nat → Nat) : List Value := (List.range k).map fun j => .slice (some ⟨G j, 0, none⟩) n (C j)
theorem hdrs_length (n k : Nat) (G C : Nat → Nat) : (hdrs n k G C).length = k := by simp [hdrs]
theorem hdrs_get {n k j : Nat} {G C : Nat → Nat} (h : j < k) : (hdrs n k G C)[j]? = some (.slice (some ⟨G j, 0, none⟩) n (C j)) := by simp [hdrs, h]
theorem hdrs_succ (n k : Nat) (G C : Nat → Nat) : hdrs n (k + 1) G C = hdrs n k G C ++ [.slice (some ⟨G k, 0, none⟩) n (C k)] := by simp [hdrs, List.range_succ]
theorem hdrs_congr {n k : Nat} {G C G' C' : Nat → Nat} (h : ∀ j, j < k → G j = G' j ∧ C j = C' j) : hdrs n k G C = hdrs n k G' C' := by
  unfold hdrs
  refine List.map_congr_left fun j hj => ?_
  have := h j (by simpa using hj)
  rw [this.1, this.2]
def rowOf (n : Nat) (z : Nat → Bool) : List Bool := (List.range n).map z
theorem rowOf_length (n : Nat) (z : Nat → Bool) : (rowOf n z).length = n := by simp [rowOf]
theorem rowOf_succ (n : Nat) (z : Nat → Bool) : rowOf (n + 1) z = rowOf n z ++ [z n] := by simp [rowOf, List.range_succ]
def tabOf (n : Nat) (Z : Nat → Nat → Bool) : List (List Bool) := (List.range n).map fun j => rowOf n (Z j)

/-- k rows of n, each in a block of its own. -/
structure RowsP (w : World) (base n k : Nat) (G C : Nat → Nat) (Z : Nat → Nat → Bool) : Prop where
  lo : ∀ j, j < k → base ≤ G j
  blk : ∀ j, j < k → ∃ cur : Array Value, w.heap[G j]? = some (.cells cur 4 (0, 0)) ∧ ∀ i, i < n → cur[i]? = some (.bool (Z j i))
  inj : ∀ i j, i < k → j < k → G i = G j → i = j
  cap : ∀ j, j < k → n ≤ C j

section
variable {w w' : World} {base n k : Nat} {G C : Nat → Nat} {Z : Nat → Nat → Bool}

theorem RowsP.lt (h : RowsP w base n k G C Z) {j : Nat} (hj : j < k) : G j < w.heap.size := by
  obtain ⟨cur, hb, _⟩ := h.blk j hj
  exact (Array.getElem?_eq_some_iff.1 hb).1
theorem RowsP.keep (h : RowsP w base n k G C Z) (hk : ∀ j, j < k → w'.heap[G j]? = w.heap[G j]?) : RowsP w' base n k G C Z :=
  ⟨h.lo, fun j hj => by obtain ⟨cur, hb, hc⟩ := h.blk j hj; exact ⟨cur, (hk j hj).trans hb, hc⟩, h.inj, h.cap⟩
theorem RowsP.below (h : RowsP w base n k G C Z) (hb : Below w.heap.size w w') : RowsP w' base n k G C Z := h.keep fun _ hj => hb.block _ (h.lt hj)
theorem RowsP.cell (h : RowsP w base n k G C Z) {j i : Nat} (hj : j < k) (hi : i < n) : w.cell? ⟨G j, i, none⟩ = some (.bool (Z j i)) := by
  obtain ⟨cur, hb, hc⟩ := h.blk j hj
  rw [cell_blk hb]; exact hc i hi
theorem RowsP.frozen (h : RowsP w base n k G C Z) {j i : Nat} (hj : j < k) : w.frozen? ⟨G j, i, none⟩ = false := by
  obtain ⟨cur, hb, _⟩ := h.blk j hj
  exact frozen_blk hb i
theorem RowsP.ne_own (h : RowsP w base n k G C Z) {b0 m : Nat} {v : Value} {xs : List Value} (ho : w.ownsRow b0 26 1 v m xs) {j : Nat} (hj : j < k) : v.ownBlock ≠ some (G j) := by
  obtain ⟨cur, hb, _⟩ := h.blk j hj
  rcases ho.2 with ⟨rfl, _⟩ | ⟨g', cap, cur', rfl, _, hh, _⟩
  · simp [Value.ownBlock]
  · intro he
    have e : g' = G j := by simpa [Value.ownBlock] using he
    subst e
    rw [hb] at hh
    injection hh with hh
    injection hh with _ ht
    exact absurd ht (by decide)
theorem RowsP.grown (h : RowsP w base n k G C Z) {b0 m : Nat} {v : Value} {xs : List Value} (ho : w.ownsRow b0 26 1 v m xs) (hg : w.grownBy w' v.ownBlock) : RowsP w' base n k G C Z :=
  h.keep fun _ hj => hg.block _ (h.lt hj) (fun e => h.ne_own ho hj e.symm)
theorem RowsP.set (h : RowsP w base n k G C Z) {a b : Nat} (ha : a < k) (x : Bool) : RowsP (w.setCell ⟨G a, b, none⟩ (.bool x)) base n k G C (fun i j => if i = a ∧ j = b then x else Z i j) := by
  refine ⟨h.lo, fun j hj => ?_, h.inj, h.cap⟩
  obtain ⟨cur, hb, hc⟩ := h.blk j hj
  by_cases e : j = a
  · subst e
    refine ⟨_, set_blk hb b _, fun i hi => ?_⟩
    rw [Array.getElem?_setIfInBounds]
    have hsz := (Array.getElem?_eq_some_iff.1 (hc i hi)).1
    by_cases ei : b = i
    · subst ei; simp [hsz]
    · rw [if_neg ei, hc i hi]
      have : ¬ i = b := fun h => ei h.symm
      simp [this]
  · refine ⟨cur, ?_, fun i hi => ?_⟩
    · rw [Below.heap_setCell w _ _ (G j) (fun he => e (h.inj j a hj ha he))]; exact hb
    · rw [hc i hi]; simp [e]
/-- One row more. -/
theorem RowsP.snoc (h : RowsP w base n k G C Z) {b0 : Nat} {v : Value} (hb0 : base ≤ b0) (hlt : ∀ j, j < k → G j < b0) (hn : 0 < n) (ho : w.ownsRow b0 4 1 v n (bls (rowOf n (Z k)))) :
    ∃ g c, v = .slice (some ⟨g, 0, none⟩) n c ∧ RowsP w base n (k + 1) (fun j => if j = k then g else G j) (fun j => if j = k then c else C j) Z := by
  rcases ho.2 with ⟨_, h0⟩ | ⟨g, cap, cur, rfl, hb, hg, hnc, _, hcs, hx⟩
  · omega
  · refine ⟨g, cap, rfl, ⟨fun j hj => ?_, fun j hj => ?_, fun i j hi hj => ?_, fun j hj => ?_⟩⟩
    · split
      · omega
      · exact h.lo j (by omega)
    · by_cases e : j = k
      · subst e
        simp only [if_true]
        refine ⟨cur, hg, fun i hi => ?_⟩
        have h1 : (cur.toList.take (n * 1))[i]? = some (.bool (Z j i)) := by
          rw [hx]
          simp [bls, rowOf, hi]
        rw [List.getElem?_take, if_pos (by omega)] at h1
        simpa using h1
      · simp only [if_neg e]
        exact h.blk j (by omega)
    · split <;> split
      · omega
      · intro e; have := hlt j (by omega); omega
      · intro e; have := hlt i (by omega); omega
      · exact h.inj i j (by omega) (by omega)
    · split
      · exact hnc
      · exact h.cap j (by omega)
theorem rows_none (w : World) (base n : Nat) (G C : Nat → Nat) (Z : Nat → Nat → Bool) : RowsP w base n 0 G C Z := ⟨fun _ h => by omega, fun _ h => by omega, fun _ _ h => by omega, fun _ h => by omega⟩
end

/-- A table that the call has made: rows of its own, in blocks from base on. -/
structure FG (w : World) (base : Nat) (v : Value) (n k : Nat) (G C : Nat → Nat) (Z : Nat → Nat → Bool) : Prop where
  own : w.ownsRow base 26 1 v k (hdrs n k G C)
  rows : RowsP w base n k G C Z

section
variable {w w' : World} {base n k : Nat} {v : Value} {G C : Nat → Nat} {Z : Nat → Nat → Bool}

theorem FG.none_ (w : World) (base n : Nat) (G C : Nat → Nat) (Z : Nat → Nat → Bool) : FG w base (.slice none 0 0) n 0 G C Z := ⟨World.ownsRow_nil _ _ _ _, rows_none _ _ _ _ _ _⟩
theorem FG.below (h : FG w base v n k G C Z) (hb : Below w.heap.size w w') : FG w' base v n k G C Z := ⟨own_below h.own hb, h.rows.below hb⟩
theorem FG.grid (h : FG w base v n n G C Z) (hn : 0 < n) : ∃ g c, v = .slice (some ⟨g, 0, none⟩) n c ∧ base ≤ g ∧ g < w.heap.size ∧ (∀ j, j < n → w.cell? ⟨g, j, none⟩ = some (.slice (some ⟨G j, 0, none⟩) n (C j))) ∧ w.ownsRow base 26 1 (.slice (some ⟨g, 0, none⟩) n c) n (hdrs n n G C) := by
  have ho := h.own
  rcases ho.2 with ⟨_, h0⟩ | ⟨g, cap, cur, rfl, hb, hg, _⟩
  · omega
  · refine ⟨g, cap, rfl, hb, (Array.getElem?_eq_some_iff.1 hg).1, fun j hj => ?_, ho⟩
    rw [ho.cellAt j (by omega)]
    simp [hdrs, hj]
theorem FG.set (h : FG w base v n k G C Z) {a b : Nat} (ha : a < k) (x : Bool) : FG (w.setCell ⟨G a, b, none⟩ (.bool x)) base v n k G C (fun i j => if i = a ∧ j = b then x else Z i j) :=
  ⟨h.own.kept (row := some (G a)) ⟨rfl, rfl, rfl, by simp [World.setCell], fun q hq hne => Below.heap_setCell w _ _ q (fun e => hne (by simp [e]))⟩ (.inr (h.rows.ne_own h.own ha)), h.rows.set ha x⟩
def rowsL (n : Nat) (G C : Nat → Nat) (Z : Nat → Nat → Bool) : List Rw := (List.range n).map fun j => ⟨some ⟨G j, 0, none⟩, C j, rowOf n (Z j)⟩
theorem rowsL_hdr (n : Nat) (G C : Nat → Nat) (Z : Nat → Nat → Bool) : (rowsL n G C Z).map Rw.hdr = hdrs n n G C := by
  simp [rowsL, hdrs, Rw.hdr, rowOf_length]
theorem rowsL_tab (n : Nat) (G C : Nat → Nat) (Z : Nat → Nat → Bool) : rowsOf (rowsL n G C Z) = tabOf n Z := by simp [rowsOf, rowsL, tabOf]
theorem RowsP.lies (h : RowsP w base n n G C Z) : ∀ r ∈ rowsL n G C Z, Lies w w.heap.size r.A (bls r.l) := fun r hr => by
  obtain ⟨j, hj, rfl⟩ := List.mem_map.1 hr
  have hj' : j < n := by simpa using hj
  intro _
  refine ⟨G j, 0, rfl, h.lt hj', fun i u hu => ?_⟩
  have hi : i < n := by
    have := (List.getElem?_eq_some_iff.1 hu).1; simpa [bls, rowOf] using this
  rw [Nat.zero_add, h.cell hj' hi, ← hu]
  simp [bls, rowOf, hi]
theorem FG.tab (h : FG w base v n n G C Z) : TabV w w.heap.size v (tabOf n Z) := by
  obtain ⟨A, c, rfl, _, _, hl, hL, _⟩ := Lies.of_own h.own
  exact ⟨A, c, rowsL n G C Z, by simp [rowsL], rowsL_tab n G C Z, by rw [rowsL_hdr]; exact hL, h.rows.lies⟩
theorem FG.to_grid (h : FG w base v n n G C Z) {g c : Nat} (hv : v = .slice (some ⟨g, 0, none⟩) n c) (hn : 0 < n) : Grid w w.heap.size g 0 n G (fun _ => 0) C Z := by
  obtain ⟨g', c', e, _, hg, ht, _⟩ := h.grid hn
  rw [hv] at e
  injection e with e1 _ _
  injection e1 with e1
  injection e1 with e1 _ _
  subst e1
  exact ⟨hg, fun j hj => h.rows.lt hj, fun j hj => by rw [Nat.zero_add]; exact ht j hj, fun j i hj hi => by rw [Nat.zero_add]; exact h.rows.cell hj hi⟩
end

theorem tabOf_length (n : Nat) (Z : Nat → Nat → Bool) : (tabOf n Z).length = n := by simp [tabOf]
theorem atT_tabOf {n a b : Nat} {Z : Nat → Nat → Bool} (ha : a < n) (hb : b < n) : atT (tabOf n Z) a b = Z a b := by
  simp [atT, tabOf, rowOf, List.getD, ha, hb]
theorem sq_tabOf {n : Nat} {Z : Nat → Nat → Bool} (h1 : 1 ≤ n) (h2 : n ≤ 16) : sqB (tabOf n Z) = true := by
  refine sqB_iff.2 ⟨by rw [tabOf_length]; exact h1, by rw [tabOf_length]; exact h2, fun r hr => ?_⟩
  obtain ⟨j, _, rfl⟩ := List.mem_map.1 hr
  rw [tabOf_length, rowOf_length]

end Go.Proofs.Ytidjohhnggpibaa
