/- The lattices that the laws ask about; SameTables; what is known. -/
import Derived.Test.YtidjohhnggpibaaRefs
import Derived.Test.YtidjohhnggpibaaInts
import Derived.BigQuiet
namespace Go.Proofs.Ytidjohhnggpibaa
open Go.RowKit

/-- Five labels: three side by side between the lowest and the highest. -/
def diZ (a b : Nat) : Bool := if (1 ≤ a ∧ a < 4) ∧ 1 ≤ b ∧ b < 4 then a == b else chZ a b
def seatN (k : Nat) : Nat := match k % 6 with | 0 => 2 | 1 => 3 | 2 => 4 | 3 => 4 | 4 => 5 | _ => 8
def seatZ (k : Nat) : Nat → Nat → Bool := match k % 6 with | 0 => chZ | 1 => chZ | 2 => poZ | 3 => poZ | 4 => diZ | _ => poZ
def seatT (k : Nat) : List (List Bool) := tabOf (seatN k) (seatZ k)
theorem seat_lat (k : Nat) : latB (seatT k) = true := by
  have h : k % 6 = 0 ∨ k % 6 = 1 ∨ k % 6 = 2 ∨ k % 6 = 3 ∨ k % 6 = 4 ∨ k % 6 = 5 := by omega
  unfold seatT seatN seatZ
  rcases h with h | h | h | h | h | h <;> rw [h] <;> decide +kernel
theorem seatN_le (k : Nat) : 2 ≤ seatN k ∧ seatN k ≤ 8 := by
  have h : k % 6 = 0 ∨ k % 6 = 1 ∨ k % 6 = 2 ∨ k % 6 = 3 ∨ k % 6 = 4 ∨ k % 6 = 5 := by omega
  unfold seatN
  rcases h with h | h | h | h | h | h <;> rw [h] <;> decide
theorem seatT_len (k : Nat) : (seatT k).length = seatN k := tabOf_length _ _
theorem pow_lat : ∀ n, n ≤ 4 → latB (tabOf (2 ^ n) poZ) = true := by
  intro n h
  have h' : n = 0 ∨ n = 1 ∨ n = 2 ∨ n = 3 ∨ n = 4 := by omega
  rcases h' with rfl | rfl | rfl | rfl | rfl <;> decide +kernel
theorem chain_lat : ∀ n, n < 16 → latB (tabOf (n + 1) chZ) = true := by
  intro n h
  have h' : n = 0 ∨ n = 1 ∨ n = 2 ∨ n = 3 ∨ n = 4 ∨ n = 5 ∨ n = 6 ∨ n = 7 ∨ n = 8 ∨ n = 9 ∨ n = 10 ∨ n = 11 ∨ n = 12 ∨ n = 13 ∨ n = 14 ∨ n = 15 := by omega
  rcases h' with rfl | rfl | rfl | rfl | rfl | rfl | rfl | rfl | rfl | rfl | rfl | rfl | rfl | rfl | rfl | rfl <;> decide +kernel

theorem di_start : ∀ x y, x < 5 → y < 5 → chZ x y = if x < 1 then diZ x y else chZ x y := fun x y _ _ => by
  by_cases h : x < 1
  · rw [if_pos h]
    unfold diZ
    rw [if_neg (by omega)]
  · rw [if_neg h]
theorem FG.congr {w : World} {base n k : Nat} {v : Value} {G C : Nat → Nat} {Z Z' : Nat → Nat → Bool} (h : FG w base v n k G C Z) (he : ∀ j i, j < k → i < n → Z j i = Z' j i) : FG w base v n k G C Z' :=
  ⟨h.own, h.rows.lo, fun j hj => by obtain ⟨cur, h1, h2⟩ := h.rows.blk j hj; exact ⟨cur, h1, fun i hi => by rw [h2 i hi, he j i hj hi]⟩, h.rows.inj, h.rows.cap⟩
/-- A call that makes a square table of its own. -/
def SeatMade (w : World) (n : Nat) (Z : Nat → Nat → Bool) (e : Ending) (w' : World) : Prop := ∃ v G C, e = .returned v ∧ FG w' w.heap.size v n n G C Z ∧ Below w.heap.size w w'

set_option maxHeartbeats 4000000 in
theorem seat_di (k : Nat) (h : k % 6 = 4) (hk : k ≤ 255) (w : World) : Calls Try.prog 10 #[.int .u8 k] w (SeatMade w 5 diZ) := by
  have e0 : (k : Int) % 6 = 4 := by omega
  go_enter Try.func10, Try.ntmps10
  go_wp2_with fail
  refine (chain_any 5 (by omega) (by omega) w).mono ?_
  rintro e w1 ⟨v, G, C, rfl, hg, hb⟩
  obtain ⟨g, c1, rfl, hbg, hg1, _, _⟩ := hg.grid (by omega)
  have HG := Lib.hid hg; clear hg
  have HB := Lib.hid hb; clear hb
  go_wp2_with fail
  go_loopw [4] (fun i wr => ∃ (a : Nat) (Z : Nat → Nat → Bool), 1 ≤ a ∧ a ≤ 4 ∧ i = .int .i64 a ∧ FG wr w.heap.size (.slice (some ⟨g, 0, none⟩) 5 c1) 5 5 G C Z ∧ (∀ x y, x < 5 → y < 5 → Z x y = if x < a then diZ x y else chZ x y) ∧ Below w.heap.size w wr) (fun i _ => 4 - (intOf i).toNat)
  case atStart => exact ⟨1, chZ, by omega, by omega, rfl, HG.out, di_start, HB.out⟩
  case round =>
    clear HG HB
    obtain ⟨a, Z, ha1, ha4, rfl, hg, hz, hb⟩ := hrel
    have HG := Lib.hid hg; clear hg
    have HZ := Lib.hid hz; clear hz
    have HB := Lib.hid hb; clear hb
    by_cases hlt : a < 4
    · have d1 : decide ((a : Int) < 4) = true := by simp; omega
      go_wp2_with fail
      obtain ⟨w2, hw2⟩ : ∃ w2 : World, w2 = wr := ⟨_, rfl⟩
      have HG1 := Lib.hid (hw2 ▸ HG.out)
      have HB1 := Lib.hid (hw2 ▸ HB.out : Below w.heap.size w w2)
      rw [← hw2]
      clear HG HB hw2
      go_loopw [5] (fun i wr => ∃ (b : Nat) (Z : Nat → Nat → Bool), 1 ≤ b ∧ b ≤ 4 ∧ i = .int .i64 b ∧ FG wr w.heap.size (.slice (some ⟨g, 0, none⟩) 5 c1) 5 5 G C Z ∧ (∀ x y, x < 5 → y < 5 → Z x y = if x < a ∨ x = a ∧ y < b then diZ x y else chZ x y) ∧ Below w.heap.size w wr) (fun i _ => 4 - (intOf i).toNat)
      case atStart =>
        refine ⟨1, Z, by omega, by omega, rfl, HG1.out, fun x y hx hy => ?_, HB1.out⟩
        rw [HZ.out x y hx hy]
        by_cases h1 : x < a
        · rw [if_pos h1, if_pos (Or.inl h1)]
        · rw [if_neg h1]
          by_cases h2 : x = a ∧ y < 1
          · rw [if_pos (Or.inr h2)]
            unfold diZ
            rw [if_neg (by omega)]
          · rw [if_neg (by omega)]
      case round =>
        clear HG1 HB1 HZ
        obtain ⟨b, Z, hb1, hb4, rfl, hg, hz, hb⟩ := hrel
        have HG := Lib.hid hg; clear hg
        have HZ := Lib.hid hz; clear hz
        have HB := Lib.hid hb; clear hb
        by_cases hjm : b < 4
        · have d2 : decide ((b : Int) < 4) = true := by simp; omega
          obtain ⟨g', c', hv, _, _, htop, _⟩ := HG.out.grid (by omega)
          injection hv with hv1 _ hv3
          injection hv1 with hv1
          injection hv1 with hv1 _ _
          subst hv1 hv3
          have t1 := htop a (by omega)
          have t2 := HG.out.rows.cell (j := a) (i := b) (by omega) (by omega)
          have t3 := HG.out.rows.frozen (j := a) (i := b) (by omega)
          have hlo := HG.out.rows.lo a (by omega)
          clear htop
          have HZN := Lib.hid (show ∀ x y, x < 5 → y < 5 → (if x = a ∧ y = b then decide (a = b) else Z x y) = if x < a ∨ x = a ∧ y < b + 1 then diZ x y else chZ x y by
            intro x y hx hy
            by_cases h1 : x = a ∧ y = b
            · rw [if_pos h1, if_pos (by omega)]
              unfold diZ
              rw [if_pos (by omega), h1.1, h1.2, Bool.eq_iff_iff]; simp
            · rw [if_neg h1, HZ.out x y hx hy]
              by_cases h2 : x < a ∨ x = a ∧ y < b
              · rw [if_pos h2, if_pos (by omega)]
              · rw [if_neg h2, if_neg (by omega)])
          obtain ⟨z, hz⟩ : ∃ z, decide (a = b) = z := ⟨_, rfl⟩
          have ez : ((a : Int) == (b : Int)) = z := by rw [← hz, Bool.eq_iff_iff]; simp; omega
          rw [hz] at HZN
          clear hz
          go_wp2_with fail
          go_roundw
          case rel => exact ⟨b + 1, _, by omega, by omega, by go_num, HG.out.set (by omega) z, HZN.out, HB.out.setCell (p := ⟨G a, b, none⟩) hlo _⟩
          case measure => simp [intOf]; omega
        · obtain rfl : b = 4 := by omega
          go_wp2_with fail
          go_roundw
          case rel =>
            refine ⟨a + 1, Z, by omega, by omega, by go_num, HG.out, fun x y hx hy => ?_, HB.out⟩
            rw [HZ.out x y hx hy]
            by_cases h1 : x < a + 1
            · rw [if_pos h1]
              by_cases h2 : x < a ∨ x = a ∧ y < 4
              · rw [if_pos h2]
              · rw [if_neg h2]
                unfold diZ
                rw [if_neg (by omega)]
            · rw [if_neg h1, if_neg (by omega)]
          case measure => simp [intOf]; omega
    · obtain rfl : a = 4 := by omega
      have HE := Lib.hid (HG.out.congr (Z' := diZ) (fun x y hx hy => by
        rw [HZ.out x y hx hy]
        by_cases h1 : x < 4
        · rw [if_pos h1]
        · rw [if_neg h1]
          unfold diZ
          rw [if_neg (by omega)]))
      go_wp2_with fail
      go_ret
      exact ⟨_, G, C, rfl, HE.out, HB.out⟩


set_option maxHeartbeats 1000000 in
theorem seat_0 (k : Nat) (h : k % 6 = 0) (hk : k ≤ 255) (w : World) : Calls Try.prog 10 #[.int .u8 k] w (SeatMade w 2 chZ) := by
  have e0 : (k : Int) % 6 = 0 := by omega
  go_enter Try.func10, Try.ntmps10
  go_wp2_with fail
  refine (chain_any 2 (by omega) (by omega) w).mono ?_
  rintro e w1 ⟨v, G, C, rfl, hg, hb⟩
  have HG := Lib.hid hg; clear hg
  have HB := Lib.hid hb; clear hb
  go_wp2_with fail
  go_ret
  exact ⟨_, G, C, rfl, HG.out, HB.out⟩

set_option maxHeartbeats 1000000 in
theorem seat_1 (k : Nat) (h : k % 6 = 1) (hk : k ≤ 255) (w : World) : Calls Try.prog 10 #[.int .u8 k] w (SeatMade w 3 chZ) := by
  have e0 : (k : Int) % 6 = 1 := by omega
  go_enter Try.func10, Try.ntmps10
  go_wp2_with fail
  refine (chain_any 3 (by omega) (by omega) w).mono ?_
  rintro e w1 ⟨v, G, C, rfl, hg, hb⟩
  have HG := Lib.hid hg; clear hg
  have HB := Lib.hid hb; clear hb
  go_wp2_with fail
  go_ret
  exact ⟨_, G, C, rfl, HG.out, HB.out⟩

set_option maxHeartbeats 1000000 in
theorem seat_2 (k : Nat) (h : k % 6 = 2) (hk : k ≤ 255) (w : World) : Calls Try.prog 10 #[.int .u8 k] w (SeatMade w 4 poZ) := by
  have e0 : (k : Int) % 6 = 2 := by omega
  go_enter Try.func10, Try.ntmps10
  go_wp2_with fail
  refine (refPow_2 w).mono ?_
  rintro e w1 ⟨v, G, C, rfl, hg, hb⟩
  have HG := Lib.hid hg; clear hg
  have HB := Lib.hid hb; clear hb
  go_wp2_with fail
  go_ret
  exact ⟨_, G, C, rfl, HG.out, HB.out⟩

set_option maxHeartbeats 1000000 in
theorem seat_3 (k : Nat) (h : k % 6 = 3) (hk : k ≤ 255) (w : World) : Calls Try.prog 10 #[.int .u8 k] w (SeatMade w 4 poZ) := by
  have e0 : (k : Int) % 6 = 3 := by omega
  go_enter Try.func10, Try.ntmps10
  go_wp2_with fail
  refine (refPow_2 w).mono ?_
  rintro e w1 ⟨v, G, C, rfl, hg, hb⟩
  have HG := Lib.hid hg; clear hg
  have HB := Lib.hid hb; clear hb
  go_wp2_with fail
  go_ret
  exact ⟨_, G, C, rfl, HG.out, HB.out⟩

set_option maxHeartbeats 1000000 in
theorem seat_5 (k : Nat) (h : k % 6 = 5) (hk : k ≤ 255) (w : World) : Calls Try.prog 10 #[.int .u8 k] w (SeatMade w 8 poZ) := by
  have e0 : (k : Int) % 6 = 5 := by omega
  go_enter Try.func10, Try.ntmps10
  go_wp2_with fail
  refine (refPow_3 w).mono ?_
  rintro e w1 ⟨v, G, C, rfl, hg, hb⟩
  have HG := Lib.hid hg; clear hg
  have HB := Lib.hid hb; clear hb
  go_wp2_with fail
  go_ret
  exact ⟨_, G, C, rfl, HG.out, HB.out⟩

theorem seat_any (k : Nat) (hk : k ≤ 255) (w : World) : Calls Try.prog 10 #[.int .u8 k] w (SeatMade w (seatN k) (seatZ k)) := by
  have h : k % 6 = 0 ∨ k % 6 = 1 ∨ k % 6 = 2 ∨ k % 6 = 3 ∨ k % 6 = 4 ∨ k % 6 = 5 := by omega
  rcases h with h | h | h | h | h | h
  · have := seat_0 k h hk w; unfold seatN seatZ; rw [h]; exact this
  · have := seat_1 k h hk w; unfold seatN seatZ; rw [h]; exact this
  · have := seat_2 k h hk w; unfold seatN seatZ; rw [h]; exact this
  · have := seat_3 k h hk w; unfold seatN seatZ; rw [h]; exact this
  · have := seat_di k h hk w; unfold seatN seatZ; rw [h]; exact this
  · have := seat_5 k h hk w; unfold seatN seatZ; rw [h]; exact this

end Go.Proofs.Ytidjohhnggpibaa
