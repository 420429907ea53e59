/- The walk of pack.takeNum: it answers as decFrom does, and changes nothing. -/
import Derived.Test.YtmcphlklknfbmaaMem
import Derived.Deep.QuietTactic
import Derived.BigQuiet
namespace Go.Proofs.Ytmcphlklknfbmaa
set_option maxRecDepth 100000
open Go.RowKit

theorem shl7_or (n : Nat) (c : Int) (hn : n ≤ 144115188075855871) (h0 : 0 ≤ c) (h1 : c ≤ 255) :
    bits .or .u64 ((n : Int) * 128) (bits .and .u8 c 127) = ((n * 128 + c.toNat % 128 : Nat) : Int) := by
  obtain ⟨m, rfl⟩ : ∃ m : Nat, c = m := ⟨c.toNat, by omega⟩
  have e1 := u8_and_nat m 127 (by omega) (by omega)
  rw [nat_mask7] at e1
  have e2 := u64_or_nat (n * 128) (m % 128) (by omega) (by omega)
  rw [nat_join 7 (n * 128) (m % 128) (by omega) (by omega)] at e2
  rw [show bits .and .u8 (m : Int) 127 = ((m % 128 : Nat) : Int) from e1]
  simpa using e2

theorem dec_bytes0 {i n : Nat} {c : Int} {r : List Int} (h : (i = 0 ∧ c = 128) ∨ 144115188075855871 < n) : decFrom i n (c :: r) = (0, 0, 20) := by simp [decFrom, h]
theorem dec_last {i n : Nat} {c : Int} {r : List Int} (_h : ¬ (i = 0 ∧ c = 128)) (h2 : n ≤ 144115188075855871) (h3 : c < 128) : decFrom i n (c :: r) = (n * 128 + c.toNat % 128, i + 1, 0) := by
  rw [decFrom, if_neg (by omega), if_pos h3]
theorem dec_more {i n : Nat} {c : Int} {r : List Int} (h : ¬ (i = 0 ∧ c = 128)) (h2 : n ≤ 144115188075855871) (h3 : 128 ≤ c) : decFrom i n (c :: r) = decFrom (i + 1) (n * 128 + c.toNat % 128) r := by
  rw [decFrom, if_neg (by omega), if_neg (by omega)]

theorem wrap_and (c : Int) (h0 : 0 ≤ c) (h1 : c ≤ 255) : IntKind.u64.wrap (bits .and .u8 c 127) = bits .and .u8 c 127 := by
  obtain ⟨m, rfl⟩ : ∃ m : Nat, c = m := ⟨c.toNat, by omega⟩
  have e1 := u8_and_nat m 127 (by omega) (by omega)
  rw [nat_mask7] at e1
  rw [show bits .and .u8 (m : Int) 127 = ((m % 128 : Nat) : Int) from e1]
  exact IntWalk.u64_in _ ⟨by omega, by omega⟩

theorem shl7_val (n : Nat) (c : Int) (hn : (n : Int) ≤ 144115188075855871) (h0 : 0 ≤ c) (h1 : c ≤ 255) :
    Value.int .u64 (bits .or .u64 ((n : Int) * 128) (IntKind.u64.wrap (bits .and .u8 c 127))) = Value.int .u64 ((n * 128 + c.toNat % 128 : Nat) : Int) := by
  rw [wrap_and c h0 h1, shl7_or n c (by omega) h0 h1]

theorem ret3 {a b c a' b' c' : Int} (h1 : a = a') (h2 : b = b') (h3 : c = c') :
    Ending.returned (.tuple #[.int .u64 a, .int .i64 b, .int .i64 c]) = .returned (.tuple #[.int .u64 a', .int .i64 b', .int .i64 c']) := by rw [h1, h2, h3]

set_option maxRecDepth 100000 in
set_option maxHeartbeats 1000000 in
theorem takeNum_any (B : Nat) (A : Option Addr) (c : Nat) (l : List Int) (w : World) (hm : l.length ≤ maxLen) (hB : IsBytes l) (hl : Lies w B A (u8s l)) :
    Calls Try.prog 102 #[.slice A l.length c] w fun e w' =>
      e = .returned (.tuple #[.int .u64 (decFrom 0 0 l).1, .int .i64 (decFrom 0 0 l).2.1, .int .i64 (decFrom 0 0 l).2.2]) ∧ w = w' := by
  unfold maxLen at hm
  go_enter Try.func102, Try.ntmps102
  go_wp2
  go_loop [2, 9] (fun x i => ∃ k n : Nat, k ≤ l.length ∧ i = .int .i64 k ∧ x = .int .u64 n ∧ decFrom 0 0 l = decFrom k n (l.drop k)) (fun _ i => l.length - (intOf i).toNat)
  case atStart => exact ⟨0, 0, by omega, rfl, rfl, rfl⟩
  case round =>
    obtain ⟨k, n, hk, rfl, rfl, hd⟩ := hrel
    by_cases hlt : k < l.length
    · obtain ⟨b, off, rfl, hb, hc⟩ := hl.cell (k := k) (by simpa [u8s] using hlt)
      have hcb := hB l[k] (List.getElem_mem hlt)
      have hc' : w.cell? ⟨b, off + k, none⟩ = some (.int .u8 l[k]) := by simpa [u8s] using hc
      clear hc hl
      rw [List.drop_eq_getElem_cons hlt] at hd
      generalize l[k] = ck at *
      have HD := Lib.hid hd; clear hd
      obtain ⟨hc0, hc1⟩ := hcb
      clear hB
      have hsh := fun h => shl7_val n ck h hc0 hc1
      have HS := Lib.hid hsh; clear hsh
      go_wp2
      all_goals try simp only [beq_iff_eq, beq_eq_false_iff_ne, ne_eq] at *
      all_goals first
        | (go_ret3; exact ⟨by rw [HD.out, dec_bytes0 (by omega)]; rfl, rfl⟩)
        | (go_ret3; exact ⟨by rw [HD.out, dec_last (by omega) (by omega) (by omega)]; exact ret3 (Value.int.inj (HS.out (by omega))).2 (by dsimp only; omega) rfl, rfl⟩)
        | (go_round
           case rel => exact ⟨k + 1, _, by omega, by go_num, HS.out (by omega), by rw [HD.out, dec_more (by omega) (by omega) (by omega)]⟩
           case measure => simp [intOf]; omega)
    · obtain rfl : k = l.length := by omega
      rw [List.drop_length] at hd
      have HD := Lib.hid hd; clear hd
      go_wp2
      go_ret3
      exact ⟨by rw [HD.out]; rfl, rfl⟩

end Go.Proofs.Ytmcphlklknfbmaa
