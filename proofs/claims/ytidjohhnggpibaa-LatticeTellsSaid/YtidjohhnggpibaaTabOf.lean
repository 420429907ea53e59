/- Tables that are made whole and then filled by a function value. -/
import Derived.Test.YtidjohhnggpibaaLat
import Derived.Laws.MakeOwn
import Derived.StillTailTactics
import Derived.RegionTactic
namespace Go.Proofs.Ytidjohhnggpibaa
open Go.RowKit

/-- make of so many bools, of so many rows. -/
def falses (y : Nat) : Array Value := madeCells #[.bool false] y
def nils (y : Nat) : Array Value := madeCells #[.slice none 0 0] y
theorem falses_get {y i : Nat} (hi : i < y) : (falses y)[i]? = some (.bool false) := by simp [falses, madeCells, hi, Nat.mod_one]
theorem nils_size (y : Nat) : (nils y).size = y := by simp [nils, madeCells]
theorem run_make_bools (w : World) (y : Nat) (hy : y ≤ 1000) :
    (Instr.makeSlice 26 (.int .i64 (y : Int)) (.int .i64 (y : Int))).run Try.prog w = .ok (.slice (some ⟨w.heap.size, 0, none⟩) y y) (w.alloc (.cells (falses y) 4)) := by
  obtain ⟨i0, hi, hz0, hz1, hz2⟩ := info_parts inf_bool
  have h := run_make (w := w) (P := Try.prog) 26 4 i0 (.bool false) Try.underlying26 hi hz0 .i64 .i64 (y : Int) (y : Int) (by omega) (Int.le_refl _) (by rw [hz2]; omega) (by omega)
  rw [h, hz1]
  simp [falses, Value.cells]
theorem run_make_rows (w : World) (y : Nat) (hy : y ≤ 1000) :
    (Instr.makeSlice 22 (.int .i64 (y : Int)) (.int .i64 (y : Int))).run Try.prog w = .ok (.slice (some ⟨w.heap.size, 0, none⟩) y y) (w.alloc (.cells (nils y) 26)) := by
  obtain ⟨i0, hi, hz0, hz1, hz2⟩ := info_parts inf_row
  have h := run_make (w := w) (P := Try.prog) 22 26 i0 (.slice none 0 0) Try.underlying22 hi hz0 .i64 .i64 (y : Int) (y : Int) (by omega) (Int.le_refl _) (by rw [hz2]; omega) (by omega)
  rw [h, hz1]
  simp [nils, Value.cells]

/-- The table's head: a block of n rows, of which the first k lie in the blocks behind it. -/
def Head (w : World) (H n k : Nat) : Prop := ∃ cur : Array Value, w.heap[H]? = some (.cells cur 26 (0, 0)) ∧ cur.size = n ∧ ∀ j, j < k → cur[j]? = some (.slice (some ⟨H + 1 + j, 0, none⟩) n n)
theorem Head.lt {w : World} {H n k : Nat} (h : Head w H n k) : H < w.heap.size := by
  obtain ⟨_, h, _⟩ := h; exact (Array.getElem?_eq_some_iff.1 h).1
theorem Head.keep {w w' : World} {H n k : Nat} (h : Head w H n k) (hk : w'.heap[H]? = w.heap[H]?) : Head w' H n k := by
  obtain ⟨cur, h1, h2⟩ := h; exact ⟨cur, hk.trans h1, h2⟩
theorem Head.cell {w : World} {H n k j : Nat} (h : Head w H n k) (hj : j < k) : w.cell? ⟨H, j, none⟩ = some (.slice (some ⟨H + 1 + j, 0, none⟩) n n) := by
  obtain ⟨cur, h1, _, h3⟩ := h; rw [cell_blk h1]; exact h3 j hj
theorem Head.frozen {w : World} {H n k : Nat} (h : Head w H n k) (j : Nat) : w.frozen? ⟨H, j, none⟩ = false := by
  obtain ⟨cur, h1, _⟩ := h; exact frozen_blk h1 j
theorem Head.any {w : World} {H n k j : Nat} (h : Head w H n k) (hj : j < n) : ∃ u, w.cell? ⟨H, j, none⟩ = some u := by
  obtain ⟨cur, h1, h2, _⟩ := h
  rw [cell_blk h1]
  exact ⟨cur[j], by simp [h2, hj]⟩
theorem Head.put {w : World} {H n k : Nat} (h : Head w H n k) (hk : k < n) : Head (w.setCell ⟨H, k, none⟩ (.slice (some ⟨H + 1 + k, 0, none⟩) n n)) H n (k + 1) := by
  obtain ⟨cur, h1, h2, h3⟩ := h
  refine ⟨_, set_blk h1 k _, by simp [h2], fun j hj => ?_⟩
  rw [Array.getElem?_setIfInBounds]
  by_cases e : k = j
  · subst e; simp [h2, hk]
  · rw [if_neg e, h3 j (by omega)]
theorem head_new (w : World) (n : Nat) : Head (w.alloc (.cells (nils n) 26)) w.heap.size n 0 :=
  ⟨nils n, heap_alloc_new w _, nils_size n, fun _ h => by omega⟩
/-- The state: k rows are filled. -/
structure Fill (w : World) (H n k : Nat) (Z Z' : Nat → Nat → Bool) : Prop where
  head : Head w H n k
  rows : RowsP w H n k (fun j => H + 1 + j) (fun _ => n) Z'
  same : ∀ i j, i < k → j < n → Z' i j = Z i j
  size : w.heap.size = H + 1 + k
/-- The state within the round: so many of the last row's. -/
structure FillR (w : World) (H n k m : Nat) (Z Z' : Nat → Nat → Bool) : Prop where
  head : Head w H n (k + 1)
  rows : RowsP w H n (k + 1) (fun j => H + 1 + j) (fun _ => n) Z'
  same : ∀ i j, (i < k ∧ j < n ∨ i = k ∧ j < m) → Z' i j = Z i j
  size : w.heap.size = H + 1 + (k + 1)
section
variable {w : World} {H n k m : Nat} {Z Z' : Nat → Nat → Bool}
theorem Fill.start (w : World) (n : Nat) (Z : Nat → Nat → Bool) : Fill (w.alloc (.cells (nils n) 26)) w.heap.size n 0 Z Z :=
  ⟨head_new w n, rows_none _ _ _ _ _ _, fun _ _ h => by omega, by simp⟩
theorem Fill.row (h : Fill w H n k Z Z') (hk : k < n) : FillR ((w.alloc (.cells (falses n) 4)).setCell ⟨H, k, none⟩ (.slice (some ⟨H + 1 + k, 0, none⟩) n n)) H n k 0 Z (fun i j => if i = k then false else Z' i j) := by
  have hlt := h.head.lt
  have hs := h.size
  have hblk : ∀ q, q < w.heap.size → (w.alloc (.cells (falses n) 4)).heap[q]? = w.heap[q]? := fun q hq => (below_alloc w _).block q hq
  have hne : ∀ q, q ≠ H → ((w.alloc (.cells (falses n) 4)).setCell ⟨H, k, none⟩ (.slice (some ⟨H + 1 + k, 0, none⟩) n n)).heap[q]? = (w.alloc (.cells (falses n) 4)).heap[q]? := fun q hq => Below.heap_setCell _ _ _ q hq
  refine ⟨(h.head.keep (hblk H hlt)).put hk, ⟨fun j hj => by omega, fun j hj => ?_, fun i j hi hj e => by omega, fun j hj => Nat.le_refl _⟩, fun i j hij => ?_, by simp [World.setCell, hs]; omega⟩
  · rw [hne _ (by omega)]
    by_cases e : j = k
    · subst e
      refine ⟨falses n, ?_, fun i hi => by simp [falses_get hi]⟩
      rw [← hs]; exact heap_alloc_new w _
    · obtain ⟨cur, h1, h2⟩ := h.rows.blk j (by omega)
      refine ⟨cur, ?_, fun i hi => by rw [h2 i hi]; simp [e]⟩
      rw [hblk _ (by omega)]; exact h1
  · have : ¬ i = k := by omega
    simp only [this, if_false]
    exact h.same i j (by omega) (by omega)
theorem FillR.step (h : FillR w H n k m Z Z') (hm : m < n) : FillR (w.setCell ⟨H + 1 + k, m, none⟩ (.bool (Z k m))) H n k (m + 1) Z (fun i j => if i = k ∧ j = m then Z k m else Z' i j) := by
  refine ⟨h.head.keep (Below.heap_setCell w _ _ H (by simp; omega)), h.rows.set (a := k) (b := m) (by omega) _, fun i j hij => ?_, by simp [World.setCell, h.size]⟩
  by_cases e : i = k ∧ j = m
  · rw [if_pos e, e.1, e.2]
  · rw [if_neg e]
    exact h.same i j (by omega)
theorem FillR.done (h : FillR w H n k n Z Z') : Fill w H n (k + 1) Z Z' := ⟨h.head, h.rows, fun i j hi hj => h.same i j (by omega), by rw [h.size]⟩
theorem FillR.drew (h : FillR w H n k m Z Z') : FillR w.drew H n k m Z Z' := ⟨h.head.keep rfl, h.rows.keep (fun _ _ => rfl), h.same, h.size⟩
theorem Fill.all (h : Fill w H n n Z Z') (hn : n ≤ 16) : FG w H (.slice (some ⟨H, 0, none⟩) n n) n n (fun j => H + 1 + j) (fun _ => n) Z := by
  obtain ⟨cur, h1, h2, h3⟩ := h.head
  have hcur : cur.toList = hdrs n n (fun j => H + 1 + j) (fun _ => n) := by
    refine List.ext_getElem (by simp [h2, hdrs_length]) fun j hj1 hj2 => ?_
    have hj : j < n := by simpa [h2] using hj1
    have h4 := h3 j hj
    have h5 := hdrs_get (n := n) (G := fun j => H + 1 + j) (C := fun _ => n) hj
    rw [← h5, ← Array.getElem?_toList] at h4
    rw [List.getElem?_eq_getElem hj1, List.getElem?_eq_getElem hj2] at h4
    exact Option.some.inj h4
  refine ⟨⟨by simp [hdrs_length], .inr ⟨H, n, cur, rfl, Nat.le_refl _, h1, Nat.le_refl _, by unfold maxLen; omega, by simp [h2], ?_⟩⟩, ⟨h.rows.lo, fun j hj => ?_, h.rows.inj, h.rows.cap⟩⟩
  · rw [hcur, Nat.mul_one, List.take_of_length_le (by rw [hdrs_length]; exact Nat.le_refl _)]
  · obtain ⟨c2, k1, k2⟩ := h.rows.blk j hj
    exact ⟨c2, k1, fun i hi => by rw [k2 i hi, h.same j i hj hi]⟩
end

set_option maxHeartbeats 4000000 in
theorem tabOf_chain (n : Nat) (h1 : 1 ≤ n) (h2 : n ≤ 16) (Z : Nat → Nat → Bool) (w : World) (hF : ∀ (w' : World) (a b : Nat), a < n → b < n → Below w.heap.size w w' → Calls Try.prog 53 #[.int .i64 a, .int .i64 b] w' fun e w'' => e = .returned (.bool (Z a b)) ∧ w'' = w') :
    Calls Try.prog 36 #[.int .i64 n, .func (.func 53) #[] #[]] w fun e w' => ∃ v G C, e = .returned v ∧ FG w' w.heap.size v n n G C Z ∧ Below w.heap.size w w' := by
  have hmk := fun w => run_make_bools w n (by omega)
  have hmr := fun w => run_make_rows w n (by omega)
  have HF := Lib.hid hF; clear hF
  have HST := Lib.hid (Fill.start w n Z)
  have HB0 := Lib.hid (below_alloc w (.cells (nils n) 26))
  go_enter Try.func36, Try.ntmps36
  go_wp2_with fail
  go_loopw [12] (fun i wr => ∃ (k : Nat) (Z' : Nat → Nat → Bool), k ≤ n ∧ i = .int .i64 k ∧ Fill wr w.heap.size n k Z Z' ∧ Below w.heap.size w wr) (fun i _ => n - (intOf i).toNat)
  case atStart => exact ⟨0, Z, by omega, rfl, HST.out, HB0.out⟩
  case round =>
    clear HST HB0
    obtain ⟨k, Z', hk, rfl, hg, hb⟩ := hrel
    have HG := Lib.hid hg; clear hg
    have HB := Lib.hid hb; clear hb
    by_cases hkn : k < n
    · have HR := Lib.hid (HG.out.row hkn)
      have hfr := HG.out.head.frozen k
      obtain ⟨u, hu⟩ := HG.out.head.any hkn
      have hlt := HG.out.head.lt
      have hsz := HG.out.size
      have HB1 := Lib.hid ((HB.out.trans ((below_alloc wr (.cells (falses n) 4)).mono (by omega))).setCell (p := ⟨w.heap.size, k, none⟩) (Nat.le_refl _) (.slice (some ⟨w.heap.size + 1 + k, 0, none⟩) n n))
      have hu2 : (wr.alloc (.cells (falses n) 4)).cell? ⟨w.heap.size, k, none⟩ = some u := by rw [World.cell?_alloc_past _ _ _ hlt]; exact hu
      have hf2 : (wr.alloc (.cells (falses n) 4)).frozen? ⟨w.heap.size, k, none⟩ = false := by rw [World.frozen?_alloc_past _ _ _ hlt]; exact hfr
      have hrc := (HR.out.head.cell (j := k) (by omega))
      clear hu hfr
      go_wp2_with fail
      clear hu2 hf2 hrc hsz hlt
      obtain ⟨w1, hw1⟩ : ∃ w1 : World, w1 = (wr.alloc (.cells (falses n) 4)).setCell ⟨w.heap.size, k, none⟩ (.slice (some ⟨w.heap.size + 1 + k, 0, none⟩) n n) := ⟨_, rfl⟩
      have HR1 := Lib.hid (hw1 ▸ HR.out)
      have HB2 := Lib.hid (hw1 ▸ HB1.out : Below w.heap.size w w1)
      rw [← hw1]
      clear HG HB HR HB1 hw1
      go_loopw [25] (fun i wq => ∃ (m : Nat) (Z' : Nat → Nat → Bool), m ≤ n ∧ i = .int .i64 m ∧ FillR wq w.heap.size n k m Z Z' ∧ Below w.heap.size w wq) (fun i _ => n - (intOf i).toNat)
      case atStart => exact ⟨0, _, by omega, rfl, HR1.out, HB2.out⟩
      case round =>
        clear HR1 HB2
        obtain ⟨m, Z1, hm, rfl, hg, hb⟩ := hrel
        have HG := Lib.hid hg; clear hg
        have HB := Lib.hid hb; clear hb
        by_cases hmn : m < n
        · have hrc := HG.out.head.cell (j := k) (by omega)
          have hrr := HG.out.rows.cell (j := k) (i := m) (by omega) hmn
          have hrf := HG.out.rows.frozen (j := k) (i := m) (by omega)
          have i1 : (0 : Int) ≤ (k : Int) ∧ (k : Int) < n := by omega
          have i2 : (0 : Int) ≤ (m : Int) ∧ (m : Int) < n := by omega
          have HFW := Lib.hid (HF.out wr.drew k m hkn hmn HB.out.drew)
          have HST := Lib.hid (HG.out.step hmn)
          have HBT := Lib.hid (HB.out.setCell (p := ⟨w.heap.size + 1 + k, m, none⟩) (by simp; omega) (.bool (Z k m)))
          go_wp2_with fail
          refine wp_region_still_tail 10 (by kernel_rfl) (by kernel_rfl) ?_
          simp only [List.take_succ_cons, List.take_zero, List.drop_succ_cons, List.drop_zero]
          iterate 8 still_step
          still_call HFW.out
          still_step
          refine wpStill_nil ?_
          change wpList _ _ _ _ _ wr.drew
          go_wp2_with fail
          go_roundw
          case rel => exact ⟨m + 1, _, by omega, by go_num, HST.out.drew, HBT.out.drew⟩
          case measure => simp [intOf]; omega
        · obtain rfl : m = n := by omega
          have HD := Lib.hid HG.out.done
          go_wp2_with fail
          go_roundw
          case rel => exact ⟨k + 1, _, by omega, by go_num, HD.out, HB.out⟩
          case measure => simp [intOf]; omega
    · obtain rfl : k = n := by omega
      go_wp2_with fail
      go_ret
      exact ⟨_, _, _, rfl, HG.out.all h2, HB.out⟩

set_option maxHeartbeats 4000000 in
theorem tabOf_pow (n : Nat) (h1 : 1 ≤ n) (h2 : n ≤ 16) (Z : Nat → Nat → Bool) (w : World) (hF : ∀ (w' : World) (a b : Nat), a < n → b < n → Below w.heap.size w w' → Calls Try.prog 52 #[.int .i64 a, .int .i64 b] w' fun e w'' => e = .returned (.bool (Z a b)) ∧ w'' = w') :
    Calls Try.prog 36 #[.int .i64 n, .func (.func 52) #[] #[]] w fun e w' => ∃ v G C, e = .returned v ∧ FG w' w.heap.size v n n G C Z ∧ Below w.heap.size w w' := by
  have hmk := fun w => run_make_bools w n (by omega)
  have hmr := fun w => run_make_rows w n (by omega)
  have HF := Lib.hid hF; clear hF
  have HST := Lib.hid (Fill.start w n Z)
  have HB0 := Lib.hid (below_alloc w (.cells (nils n) 26))
  go_enter Try.func36, Try.ntmps36
  go_wp2_with fail
  go_loopw [12] (fun i wr => ∃ (k : Nat) (Z' : Nat → Nat → Bool), k ≤ n ∧ i = .int .i64 k ∧ Fill wr w.heap.size n k Z Z' ∧ Below w.heap.size w wr) (fun i _ => n - (intOf i).toNat)
  case atStart => exact ⟨0, Z, by omega, rfl, HST.out, HB0.out⟩
  case round =>
    clear HST HB0
    obtain ⟨k, Z', hk, rfl, hg, hb⟩ := hrel
    have HG := Lib.hid hg; clear hg
    have HB := Lib.hid hb; clear hb
    by_cases hkn : k < n
    · have HR := Lib.hid (HG.out.row hkn)
      have hfr := HG.out.head.frozen k
      obtain ⟨u, hu⟩ := HG.out.head.any hkn
      have hlt := HG.out.head.lt
      have hsz := HG.out.size
      have HB1 := Lib.hid ((HB.out.trans ((below_alloc wr (.cells (falses n) 4)).mono (by omega))).setCell (p := ⟨w.heap.size, k, none⟩) (Nat.le_refl _) (.slice (some ⟨w.heap.size + 1 + k, 0, none⟩) n n))
      have hu2 : (wr.alloc (.cells (falses n) 4)).cell? ⟨w.heap.size, k, none⟩ = some u := by rw [World.cell?_alloc_past _ _ _ hlt]; exact hu
      have hf2 : (wr.alloc (.cells (falses n) 4)).frozen? ⟨w.heap.size, k, none⟩ = false := by rw [World.frozen?_alloc_past _ _ _ hlt]; exact hfr
      have hrc := (HR.out.head.cell (j := k) (by omega))
      clear hu hfr
      go_wp2_with fail
      clear hu2 hf2 hrc hsz hlt
      obtain ⟨w1, hw1⟩ : ∃ w1 : World, w1 = (wr.alloc (.cells (falses n) 4)).setCell ⟨w.heap.size, k, none⟩ (.slice (some ⟨w.heap.size + 1 + k, 0, none⟩) n n) := ⟨_, rfl⟩
      have HR1 := Lib.hid (hw1 ▸ HR.out)
      have HB2 := Lib.hid (hw1 ▸ HB1.out : Below w.heap.size w w1)
      rw [← hw1]
      clear HG HB HR HB1 hw1
      go_loopw [25] (fun i wq => ∃ (m : Nat) (Z' : Nat → Nat → Bool), m ≤ n ∧ i = .int .i64 m ∧ FillR wq w.heap.size n k m Z Z' ∧ Below w.heap.size w wq) (fun i _ => n - (intOf i).toNat)
      case atStart => exact ⟨0, _, by omega, rfl, HR1.out, HB2.out⟩
      case round =>
        clear HR1 HB2
        obtain ⟨m, Z1, hm, rfl, hg, hb⟩ := hrel
        have HG := Lib.hid hg; clear hg
        have HB := Lib.hid hb; clear hb
        by_cases hmn : m < n
        · have hrc := HG.out.head.cell (j := k) (by omega)
          have hrr := HG.out.rows.cell (j := k) (i := m) (by omega) hmn
          have hrf := HG.out.rows.frozen (j := k) (i := m) (by omega)
          have i1 : (0 : Int) ≤ (k : Int) ∧ (k : Int) < n := by omega
          have i2 : (0 : Int) ≤ (m : Int) ∧ (m : Int) < n := by omega
          have HFW := Lib.hid (HF.out wr.drew k m hkn hmn HB.out.drew)
          have HST := Lib.hid (HG.out.step hmn)
          have HBT := Lib.hid (HB.out.setCell (p := ⟨w.heap.size + 1 + k, m, none⟩) (by simp; omega) (.bool (Z k m)))
          go_wp2_with fail
          refine wp_region_still_tail 10 (by kernel_rfl) (by kernel_rfl) ?_
          simp only [List.take_succ_cons, List.take_zero, List.drop_succ_cons, List.drop_zero]
          iterate 8 still_step
          still_call HFW.out
          still_step
          refine wpStill_nil ?_
          change wpList _ _ _ _ _ wr.drew
          go_wp2_with fail
          go_roundw
          case rel => exact ⟨m + 1, _, by omega, by go_num, HST.out.drew, HBT.out.drew⟩
          case measure => simp [intOf]; omega
        · obtain rfl : m = n := by omega
          have HD := Lib.hid HG.out.done
          go_wp2_with fail
          go_roundw
          case rel => exact ⟨k + 1, _, by omega, by go_num, HD.out, HB.out⟩
          case measure => simp [intOf]; omega
    · obtain rfl : k = n := by omega
      go_wp2_with fail
      go_ret
      exact ⟨_, _, _, rfl, HG.out.all h2, HB.out⟩

set_option maxHeartbeats 4000000 in
theorem tabOf_new (n : Nat) (h1 : 1 ≤ n) (h2 : n ≤ 16) (Z : Nat → Nat → Bool) (w : World) (pb : Nat) (hF : ∀ (w' : World) (a b : Nat), a < n → b < n → Below w.heap.size w w' → Calls Try.prog 37 #[.int .i64 a, .int .i64 b, .pointer (some ⟨pb, 0, none⟩)] w' fun e w'' => e = .returned (.bool (Z a b)) ∧ w'' = w') :
    Calls Try.prog 36 #[.int .i64 n, .func (.func 37) #[] #[.pointer (some ⟨pb, 0, none⟩)]] w fun e w' => ∃ v G C, e = .returned v ∧ FG w' w.heap.size v n n G C Z ∧ Below w.heap.size w w' := by
  have hmk := fun w => run_make_bools w n (by omega)
  have hmr := fun w => run_make_rows w n (by omega)
  have HF := Lib.hid hF; clear hF
  have HST := Lib.hid (Fill.start w n Z)
  have HB0 := Lib.hid (below_alloc w (.cells (nils n) 26))
  go_enter Try.func36, Try.ntmps36
  go_wp2_with fail
  go_loopw [12] (fun i wr => ∃ (k : Nat) (Z' : Nat → Nat → Bool), k ≤ n ∧ i = .int .i64 k ∧ Fill wr w.heap.size n k Z Z' ∧ Below w.heap.size w wr) (fun i _ => n - (intOf i).toNat)
  case atStart => exact ⟨0, Z, by omega, rfl, HST.out, HB0.out⟩
  case round =>
    clear HST HB0
    obtain ⟨k, Z', hk, rfl, hg, hb⟩ := hrel
    have HG := Lib.hid hg; clear hg
    have HB := Lib.hid hb; clear hb
    by_cases hkn : k < n
    · have HR := Lib.hid (HG.out.row hkn)
      have hfr := HG.out.head.frozen k
      obtain ⟨u, hu⟩ := HG.out.head.any hkn
      have hlt := HG.out.head.lt
      have hsz := HG.out.size
      have HB1 := Lib.hid ((HB.out.trans ((below_alloc wr (.cells (falses n) 4)).mono (by omega))).setCell (p := ⟨w.heap.size, k, none⟩) (Nat.le_refl _) (.slice (some ⟨w.heap.size + 1 + k, 0, none⟩) n n))
      have hu2 : (wr.alloc (.cells (falses n) 4)).cell? ⟨w.heap.size, k, none⟩ = some u := by rw [World.cell?_alloc_past _ _ _ hlt]; exact hu
      have hf2 : (wr.alloc (.cells (falses n) 4)).frozen? ⟨w.heap.size, k, none⟩ = false := by rw [World.frozen?_alloc_past _ _ _ hlt]; exact hfr
      have hrc := (HR.out.head.cell (j := k) (by omega))
      clear hu hfr
      go_wp2_with fail
      clear hu2 hf2 hrc hsz hlt
      obtain ⟨w1, hw1⟩ : ∃ w1 : World, w1 = (wr.alloc (.cells (falses n) 4)).setCell ⟨w.heap.size, k, none⟩ (.slice (some ⟨w.heap.size + 1 + k, 0, none⟩) n n) := ⟨_, rfl⟩
      have HR1 := Lib.hid (hw1 ▸ HR.out)
      have HB2 := Lib.hid (hw1 ▸ HB1.out : Below w.heap.size w w1)
      rw [← hw1]
      clear HG HB HR HB1 hw1
      go_loopw [25] (fun i wq => ∃ (m : Nat) (Z' : Nat → Nat → Bool), m ≤ n ∧ i = .int .i64 m ∧ FillR wq w.heap.size n k m Z Z' ∧ Below w.heap.size w wq) (fun i _ => n - (intOf i).toNat)
      case atStart => exact ⟨0, _, by omega, rfl, HR1.out, HB2.out⟩
      case round =>
        clear HR1 HB2
        obtain ⟨m, Z1, hm, rfl, hg, hb⟩ := hrel
        have HG := Lib.hid hg; clear hg
        have HB := Lib.hid hb; clear hb
        by_cases hmn : m < n
        · have hrc := HG.out.head.cell (j := k) (by omega)
          have hrr := HG.out.rows.cell (j := k) (i := m) (by omega) hmn
          have hrf := HG.out.rows.frozen (j := k) (i := m) (by omega)
          have i1 : (0 : Int) ≤ (k : Int) ∧ (k : Int) < n := by omega
          have i2 : (0 : Int) ≤ (m : Int) ∧ (m : Int) < n := by omega
          have HFW := Lib.hid (HF.out wr.drew k m hkn hmn HB.out.drew)
          have HST := Lib.hid (HG.out.step hmn)
          have HBT := Lib.hid (HB.out.setCell (p := ⟨w.heap.size + 1 + k, m, none⟩) (by simp; omega) (.bool (Z k m)))
          go_wp2_with fail
          refine wp_region_still_tail 10 (by kernel_rfl) (by kernel_rfl) ?_
          simp only [List.take_succ_cons, List.take_zero, List.drop_succ_cons, List.drop_zero]
          iterate 8 still_step
          still_call HFW.out
          still_step
          refine wpStill_nil ?_
          change wpList _ _ _ _ _ wr.drew
          go_wp2_with fail
          go_roundw
          case rel => exact ⟨m + 1, _, by omega, by go_num, HST.out.drew, HBT.out.drew⟩
          case measure => simp [intOf]; omega
        · obtain rfl : m = n := by omega
          have HD := Lib.hid HG.out.done
          go_wp2_with fail
          go_roundw
          case rel => exact ⟨k + 1, _, by omega, by go_num, HD.out, HB.out⟩
          case measure => simp [intOf]; omega
    · obtain rfl : k = n := by omega
      go_wp2_with fail
      go_ret
      exact ⟨_, _, _, rfl, HG.out.all h2, HB.out⟩
end Go.Proofs.Ytidjohhnggpibaa
