/- The set of a list, by the program and by the reference. -/
import Derived.Test.YthffheakhadlhaaBit
namespace Go.Proofs.Ythffheakhadlhaa
open Go.RowKit

theorem two_cast (x : Nat) : (2 : Int) ^ x = ((2 ^ x : Nat) : Int) := by simp
theorem shl_one {x : Nat} (h : x < 16) : (2 : Int) ^ x % 4294967296 = ((2 ^ x : Nat) : Int) := by
  have := two_lt h
  rw [two_cast]
  generalize 2 ^ x = t at *
  omega

set_option maxHeartbeats 1000000 in
theorem of_any {B : Nat} {lv : Value} {l : List Int} (w : World) (hl : IntsV w B lv l) (hm : l.length ≤ 1000) :
    Calls Try.prog 10 #[lv] w fun e w' => e = .returned (.int .u32 (ofS l : Nat)) ∧ w = w' := by
  obtain ⟨A2, c2, rfl, hl⟩ := hl
  have HL := Lib.hid hl; clear hl
  generalize hres : ofS l = res
  generalize hml : l.length = m at *
  have HM := Lib.hid hml; clear hml
  have HR := Lib.hid hres; clear hres
  go_enter Try.func10, Try.ntmps10
  go_wp2_with fail
  go_loop [3, 5, 8] (fun p _ i => ∃ k q : Nat, k ≤ m ∧ i = .int .i64 k ∧ p = .int .u32 q ∧ ofS (l.take k) = q) (fun _ _ i => m - (intOf i).toNat)
  case atStart => exact ⟨0, 0, by omega, rfl, rfl, by simp [ofS]⟩
  case round =>
    obtain ⟨k, q, hk, rfl, rfl, hp⟩ := hrel
    have hq : q < 65536 := by rw [← hp]; exact ofS_lt _
    have HP := Lib.hid hp; clear hp
    by_cases hlt : k < m
    · have hkl : k < l.length := by rw [HM.out]; exact hlt
      have hst := ofS_take hkl
      rw [HP.out] at hst
      obtain ⟨b, off, rfl, hb, c1⟩ := lie_int HL.out hkl
      generalize l[k] = x at *
      by_cases h0 : 0 ≤ x
      · by_cases h1 : x < 16
        · rw [if_pos ⟨h0, h1⟩] at hst
          obtain ⟨y, rfl⟩ : ∃ y : Nat, x = y := ⟨x.toNat, by omega⟩
          have hy : y < 16 := by omega
          have e1 := shl_one hy
          rw [Int.toNat_natCast] at hst
          have e2 := u32_or_nat q (2 ^ y) (by omega) (by have := two_lt hy; omega)
          have HK := Lib.hid hst; clear hst
          go_wp2_with fail
          rw [two_cast, e2]
          go_round
          case rel => exact ⟨k + 1, _, by omega, by go_num, rfl, HK.out⟩
          case measure => simp [intOf]; omega
        · rw [if_neg (by omega)] at hst
          have HK := Lib.hid hst; clear hst
          go_wp2_with fail
          go_round
          case rel => exact ⟨k + 1, q, by omega, by go_num, rfl, HK.out⟩
          case measure => simp [intOf]; omega
      · rw [if_neg (by omega)] at hst
        have HK := Lib.hid hst; clear hst
        go_wp2_with fail
        go_round
        case rel => exact ⟨k + 1, q, by omega, by go_num, rfl, HK.out⟩
        case measure => simp [intOf]; omega
    · obtain rfl : k = m := by omega
      obtain rfl : q = res := by rw [← HR.out, ← HP.out, ← HM.out, List.take_length]
      go_wp2_with fail
      go_ret
      exact ⟨rfl, rfl⟩

set_option maxHeartbeats 1000000 in
theorem refOf_any {B : Nat} {lv : Value} {l : List Int} (w : World) (hl : IntsV w B lv l) (hm : l.length ≤ 1000) :
    Calls Try.prog 11 #[lv] w fun e w' => e = .returned (.int .u32 (ofS l : Nat)) ∧ w = w' := by
  obtain ⟨A2, c2, rfl, hl⟩ := hl
  have HL := Lib.hid hl; clear hl
  generalize hres : ofS l = res
  generalize hml : l.length = m at *
  have HM := Lib.hid hml; clear hml
  have HR := Lib.hid hres; clear hres
  go_enter Try.func11, Try.ntmps11
  go_wp2_with fail
  go_loop [3, 4] (fun p i => ∃ k q : Nat, k ≤ m ∧ i = .int .i64 k ∧ p = .int .u32 q ∧ ofS (l.take k) = q) (fun _ i => m - (intOf i).toNat)
  case atStart => exact ⟨0, 0, by omega, rfl, rfl, by simp [ofS]⟩
  case round =>
    obtain ⟨k, q, hk, rfl, rfl, hp⟩ := hrel
    have hq : q < 65536 := by rw [← hp]; exact ofS_lt _
    have HP := Lib.hid hp; clear hp
    by_cases hlt : k < m
    · have hkl : k < l.length := by rw [HM.out]; exact hlt
      have hst := ofS_take hkl
      rw [HP.out] at hst
      obtain ⟨b, off, rfl, hb, c1⟩ := lie_int HL.out hkl
      generalize l[k] = x at *
      by_cases h0 : 0 ≤ x
      · by_cases h1 : x < 16
        · rw [if_pos ⟨h0, h1⟩] at hst
          obtain ⟨y, rfl⟩ : ∃ y : Nat, x = y := ⟨x.toNat, by omega⟩
          have hy : y < 16 := by omega
          have e1 := shl_one hy
          rw [Int.toNat_natCast] at hst
          have e2 := u32_or_nat q (2 ^ y) (by omega) (by have := two_lt hy; omega)
          have HK := Lib.hid hst; clear hst
          go_wp2_with fail
          rw [two_cast, e2]
          go_round
          case rel => exact ⟨k + 1, _, by omega, by go_num, rfl, HK.out⟩
          case measure => simp [intOf]; omega
        · rw [if_neg (by omega)] at hst
          have HK := Lib.hid hst; clear hst
          go_wp2_with fail
          go_round
          case rel => exact ⟨k + 1, q, by omega, by go_num, rfl, HK.out⟩
          case measure => simp [intOf]; omega
      · rw [if_neg (by omega)] at hst
        have HK := Lib.hid hst; clear hst
        go_wp2_with fail
        go_round
        case rel => exact ⟨k + 1, q, by omega, by go_num, rfl, HK.out⟩
        case measure => simp [intOf]; omega
    · obtain rfl : k = m := by omega
      obtain rfl : q = res := by rw [← HR.out, ← HP.out, ← HM.out, List.take_length]
      go_wp2_with fail
      go_ret
      exact ⟨rfl, rfl⟩

end Go.Proofs.Ythffheakhadlhaa
