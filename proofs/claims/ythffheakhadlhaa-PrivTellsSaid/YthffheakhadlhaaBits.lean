/- The list of a set, by the program and by the reference. -/
import Derived.Test.YthffheakhadlhaaBit
namespace Go.Proofs.Ythffheakhadlhaa
open Go.RowKit

theorem shr_bit {p : Nat} (hp : p < 4294967296) (k : Nat) : bits .and .u32 ((p / 2 ^ k : Nat) : Int) 1 = ((p / 2 ^ k % 2 : Nat) : Int) := by
  have h : p / 2 ^ k < 4294967296 := Nat.lt_of_le_of_lt (Nat.div_le_self _ _) hp
  have e := u32_and_nat (p / 2 ^ k) 1 h (by omega)
  rw [nat_mask1] at e
  exact e
theorem shr_cast (p k : Nat) : (p : Int) / 2 ^ k = ((p / 2 ^ k : Nat) : Int) := by simp
theorem bit_div (p k : Nat) : p.testBit k = decide (p / 2 ^ k % 2 = 1) := by rw [Nat.testBit_eq_decide_div_mod_eq]
theorem div_small {p k : Nat} (h : p / 2 ^ k = 0) : p < 2 ^ k := (Nat.div_eq_zero_iff_lt (Nat.two_pow_pos k)).1 h
theorem div_big {p k : Nat} (hp : p < 4294967296) (h : ¬ p / 2 ^ k = 0) : k < 32 := by
  rcases Nat.lt_or_ge k 32 with h1 | h1
  · exact h1
  · exact (h ((Nat.div_eq_zero_iff_lt (Nat.two_pow_pos k)).2 (Nat.lt_of_lt_of_le hp (Nat.pow_le_pow_right (by omega) h1 : 2 ^ 32 ≤ 2 ^ k)))).elim
/-- A call that makes a list. -/
def ListMade (w : World) (l : List Nat) (e : Ending) (w' : World) : Prop := ∃ v, e = .returned v ∧ IntsV w' w'.heap.size v (nats l) ∧ Below w.heap.size w w'
theorem ints_own {w : World} {base : Nat} {v : Value} {l : List Nat} (h : w.ownsRow base 3 1 v l.length (i64s (nats l))) : IntsV w w.heap.size v (nats l) := by
  obtain ⟨A, c, rfl, _, _, _, hl, _⟩ := Lies.of_own h
  exact ⟨A, c, by rw [nats_length], hl⟩

set_option maxHeartbeats 2000000 in
theorem list_any (p : Nat) (w : World) (hp : p < 4294967296) :
    Calls Try.prog 13 #[.int .u32 p] w (ListMade w (ones p)) := by
  go_enter Try.func13, Try.ntmps13
  go_wp2_with fail
  go_loopw [3, 4] (fun v i wr => ∃ k : Nat, k ≤ 32 ∧ i = .int .i64 k ∧ wr.ownsRow w.heap.size 3 1 v (onesK p k).length (i64s (nats (onesK p k))) ∧ Below w.heap.size w wr) (fun _ i _ => 32 - (intOf i).toNat)
  case atStart => exact ⟨0, by omega, rfl, World.ownsRow_nil _ _ _ _, Below.refl _ _⟩
  case round =>
    obtain ⟨k, hk, rfl, ho, hb⟩ := hrel
    have hsz := hb.size
    have HO := Lib.hid ho; clear ho
    have HB := Lib.hid hb; clear hb
    have hlen := onesK_len p k
    by_cases hz : p / 2 ^ k = 0
    · have HE := Lib.hid (show onesK p k = ones p by
        have := onesK_end (div_small hz) (32 - k)
        rw [show k + (32 - k) = 32 from by omega] at this
        exact this.symm)
      have e0 : (((p : Int) / 2 ^ k) != 0) = false := by rw [shr_cast, hz]; rfl
      clear hz
      go_wp2_with fail
      go_ret
      exact ⟨_, rfl, by rw [← HE.out]; exact ints_own HO.out, HB.out⟩
    · have hk32 := div_big hp hz
      have e0 : (((p : Int) / 2 ^ k) != 0) = true := by
        rw [shr_cast, bne_iff_ne]
        omega
      clear hz
      cases hbit : p.testBit k with
      | true =>
        have HN := Lib.hid (onesK_yes hbit)
        have e1 : (bits .and .u32 ((p : Int) / 2 ^ k) 1 == 1) = true := by
          rw [shr_cast, shr_bit hp, beq_iff_eq]
          rw [bit_div, decide_eq_true_iff] at hbit
          omega
        clear hbit
        have HO2 := Lib.hid (HO.out.alloc (.cells #[.int .i64 (k : Int)] 3))
        go_wp2_with (at_builtin; go_must (refine wpList_append_L 23 3 _ 8 Try.underlying23 inf_int rfl rfl _ _ rfl w.heap.size _ _ _ rfl HO2.out (wr.heap.size + 1) _ 1 1 [.int .i64 (k : Int)] rfl rfl (lies_new wr [.int .i64 (k : Int)] 3) ?c2 ?c3 ?c4 ?c5 ?_))
        case c2 => intro u hu; simp at hu; subst hu; rfl
        case c3 => omega
        case c4 => omega
        case c5 => simp; omega
        intro v3 w3 ho3 _ hb3
        have HO3 := Lib.hid ho3; clear ho3
        have HB3 := Lib.hid ((HB.out.trans ((below_alloc wr (.cells #[.int .i64 (k : Int)] 3)).mono hsz)).trans hb3); clear hb3
        clear e1 e0
        go_wp2_with fail
        go_roundw
        case rel => exact ⟨k + 1, by omega, by go_num, by rw [HN.out]; simpa [i64s, nats] using HO3.out, HB3.out⟩
        case measure => simp [intOf]; omega
      | false =>
        have HN := Lib.hid (onesK_no hbit)
        have e1 : (bits .and .u32 ((p : Int) / 2 ^ k) 1 == 1) = false := by
          rw [shr_cast, shr_bit hp, beq_eq_false_iff_ne]
          rw [bit_div, decide_eq_false_iff_not] at hbit
          omega
        clear hbit
        go_wp2_with fail
        go_roundw
        case rel => exact ⟨k + 1, by omega, by go_num, by rw [HN.out]; exact HO.out, HB.out⟩
        case measure => simp [intOf]; omega

set_option maxHeartbeats 2000000 in
theorem refList_any (p : Nat) (w : World) (hp : p < 4294967296) :
    Calls Try.prog 14 #[.int .u32 p] w (ListMade w (ones p)) := by
  go_enter Try.func14, Try.ntmps14
  go_wp2_with fail
  go_loopw [3, 4] (fun v i wr => ∃ k : Nat, k ≤ 32 ∧ i = .int .i64 k ∧ wr.ownsRow w.heap.size 3 1 v (onesK p k).length (i64s (nats (onesK p k))) ∧ Below w.heap.size w wr) (fun _ i _ => 32 - (intOf i).toNat)
  case atStart => exact ⟨0, by omega, rfl, World.ownsRow_nil _ _ _ _, Below.refl _ _⟩
  case round =>
    obtain ⟨k, hk, rfl, ho, hb⟩ := hrel
    have hsz := hb.size
    have HO := Lib.hid ho; clear ho
    have HB := Lib.hid hb; clear hb
    have hlen := onesK_len p k
    by_cases hk32 : k < 32
    · have d4 : decide ((k : Int) < 32) = true := by simp; omega
      cases hbit : p.testBit k with
      | true =>
        have HN := Lib.hid (onesK_yes hbit)
        have e1 : (bits .and .u32 ((p : Int) / 2 ^ k) 1 == 1) = true := by
          rw [shr_cast, shr_bit hp, beq_iff_eq]
          rw [bit_div, decide_eq_true_iff] at hbit
          omega
        clear hbit
        have HO2 := Lib.hid (HO.out.alloc (.cells #[.int .i64 (k : Int)] 3))
        go_wp2_with (at_builtin; go_must (refine wpList_append_L 23 3 _ 8 Try.underlying23 inf_int rfl rfl _ _ rfl w.heap.size _ _ _ rfl HO2.out (wr.heap.size + 1) _ 1 1 [.int .i64 (k : Int)] rfl rfl (lies_new wr [.int .i64 (k : Int)] 3) ?c2 ?c3 ?c4 ?c5 ?_))
        case c2 => intro u hu; simp at hu; subst hu; rfl
        case c3 => omega
        case c4 => omega
        case c5 => simp; omega
        intro v3 w3 ho3 _ hb3
        have HO3 := Lib.hid ho3; clear ho3
        have HB3 := Lib.hid ((HB.out.trans ((below_alloc wr (.cells #[.int .i64 (k : Int)] 3)).mono hsz)).trans hb3); clear hb3
        clear e1
        go_wp2_with fail
        go_roundw
        case rel => exact ⟨k + 1, by omega, by go_num, by rw [HN.out]; simpa [i64s, nats] using HO3.out, HB3.out⟩
        case measure => simp [intOf]; omega
      | false =>
        have HN := Lib.hid (onesK_no hbit)
        have e1 : (bits .and .u32 ((p : Int) / 2 ^ k) 1 == 1) = false := by
          rw [shr_cast, shr_bit hp, beq_eq_false_iff_ne]
          rw [bit_div, decide_eq_false_iff_not] at hbit
          omega
        clear hbit
        go_wp2_with fail
        go_roundw
        case rel => exact ⟨k + 1, by omega, by go_num, by rw [HN.out]; exact HO.out, HB.out⟩
        case measure => simp [intOf]; omega
    · obtain rfl : k = 32 := by omega
      go_wp2_with fail
      go_ret
      exact ⟨_, rfl, ints_own HO.out, HB.out⟩

end Go.Proofs.Ythffheakhadlhaa
