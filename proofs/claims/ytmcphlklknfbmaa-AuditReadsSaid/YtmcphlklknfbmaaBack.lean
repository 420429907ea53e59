/- Plain facts: what is encoded is decoded again, and a part of it is short. -/
import Derived.Test.YtmcphlklknfbmaaDec
namespace Go.Proofs.Ytmcphlklknfbmaa
set_option maxRecDepth 100000
open Go

theorem div_step (x j : Nat) : x / 2 ^ (7 * (j + 1)) * 128 + x / 2 ^ (7 * j) % 128 = x / 2 ^ (7 * j) := by
  have h : x / 2 ^ (7 * (j + 1)) = x / 2 ^ (7 * j) / 128 := by
    rw [Nat.div_div_eq_div_mul, show 7 * (j + 1) = 7 * j + 7 from by omega, Nat.pow_add]
  rw [h]; omega

theorem div_small (x j : Nat) (hx : x ≤ 18446744073709551615) : x / 2 ^ (7 * (j + 1)) ≤ 144115188075855871 := by
  have h : x / 2 ^ (7 * (j + 1)) = x / 128 / 2 ^ (7 * j) := by
    rw [Nat.div_div_eq_div_mul, show 7 * (j + 1) = 7 + 7 * j from by omega, Nat.pow_add]
  rw [h]
  exact Nat.le_trans (Nat.div_le_self _ _) (by omega)

theorem dec_enc (x : Nat) (hx : x ≤ 18446744073709551615) (rest : List Int) : ∀ j i, (i = 0 → j = 0 ∨ x / 2 ^ (7 * j) % 128 ≠ 0) →
    decFrom i (x / 2 ^ (7 * (j + 1))) (encAt x j ++ rest) = (x, i + j + 1, 0) := by
  intro j
  induction j with
  | zero =>
    intro i _
    have hs := div_small x 0 hx
    have hd := div_step x 0
    simp only [Nat.zero_add, Nat.mul_zero, Nat.pow_zero, Nat.div_one] at hs hd ⊢
    simp only [encAt, List.cons_append, List.nil_append]
    rw [decFrom, if_neg (by omega), if_pos (by omega)]
    have e : ((x % 128 : Nat) : Int).toNat % 128 = x % 128 := by omega
    rw [e, hd]
  | succ j ih =>
    intro i hi
    have hs := div_small x (j + 1) hx
    have hd := div_step x (j + 1)
    simp only [encAt, List.cons_append]
    have e : ((128 + x / 2 ^ (7 * (j + 1)) % 128 : Nat) : Int).toNat % 128 = x / 2 ^ (7 * (j + 1)) % 128 := by omega
    rw [decFrom, if_neg (by omega), if_neg (by omega), e, hd, ih (i + 1) (by omega)]
    simp; omega

theorem dec_short (x : Nat) (hx : x ≤ 18446744073709551615) : ∀ j i c, c ≤ j → (i = 0 → j = 0 ∨ x / 2 ^ (7 * j) % 128 ≠ 0) →
    decFrom i (x / 2 ^ (7 * (j + 1))) ((encAt x j).take c) = (0, 0, 21) := by
  intro j
  induction j with
  | zero =>
    intro i c hc _
    obtain rfl : c = 0 := by omega
    rfl
  | succ j ih =>
    intro i c hc hi
    cases c with
    | zero => rfl
    | succ c =>
      have hs := div_small x (j + 1) hx
      have hd := div_step x (j + 1)
      simp only [encAt, List.take_succ_cons]
      have e : ((128 + x / 2 ^ (7 * (j + 1)) % 128 : Nat) : Int).toNat % 128 = x / 2 ^ (7 * (j + 1)) % 128 := by omega
      rw [decFrom, if_neg (by omega), if_neg (by omega), e, hd, ih (i + 1) c (by omega) (by omega)]

theorem bitLen_ge (x k : Nat) (h : 2 ^ k ≤ x) (hx : x < 2 ^ 64) : k + 1 ≤ Lib.bitLen x := by
  rw [Lib.bitLen_shift k x h hx]
  have h1 : x / 2 ^ k ≠ 0 := by
    have := Nat.div_pos h (Nat.two_pow_pos k); omega
  rw [Lib.bitLen_half _ h1 (Nat.lt_of_le_of_lt (Nat.div_le_self _ _) hx)]
  omega

/-- How many groups come before the last one. -/
theorem topk_of (x j : Nat) (hx : x ≤ 18446744073709551615) (h1 : x / 2 ^ (7 * (j + 1)) = 0) (h2 : j = 0 ∨ x / 2 ^ (7 * j) ≠ 0) : topk x = j := by
  have hlt : x < 2 ^ (7 * (j + 1)) := by
    rcases Nat.lt_or_ge x (2 ^ (7 * (j + 1))) with h | h
    · exact h
    · have := Nat.div_pos h (Nat.two_pow_pos _); omega
  have hx' : x < 2 ^ 64 := by omega
  have hj : 7 * j ≤ 63 := by
    rcases h2 with h2 | h2
    · omega
    · rcases Nat.lt_or_ge 63 (7 * j) with h | h
      · have h3 : 2 ^ 64 ≤ 2 ^ (7 * j) := Nat.pow_le_pow_right (by omega) (by omega)
        exact absurd (Nat.div_eq_of_lt (by omega)) h2
      · exact h
  have hup : Lib.bitLen x ≤ 7 * (j + 1) := by
    rcases Nat.lt_or_ge (7 * (j + 1)) 65 with h | h
    · exact Lib.bitLen_le x _ (by omega) hlt
    · have := bitLen64 x (by omega); omega
  have hlo : j = 0 ∨ 7 * j + 1 ≤ Lib.bitLen x := by
    rcases h2 with h2 | h2
    · exact .inl h2
    · refine .inr (bitLen_ge x (7 * j) ?_ hx')
      rcases Nat.lt_or_ge x (2 ^ (7 * j)) with h | h
      · exact absurd (Nat.div_eq_of_lt h) h2
      · exact h
  unfold topk
  omega

theorem topk_spec (x : Nat) (hx : x ≤ 18446744073709551615) : x / 2 ^ (7 * (topk x + 1)) = 0 ∧ (topk x = 0 ∨ x / 2 ^ (7 * topk x) % 128 ≠ 0) := by
  have h : ∃ j, x / 2 ^ (7 * (j + 1)) = 0 ∧ (j = 0 ∨ x / 2 ^ (7 * j) ≠ 0) := by
    have h0 : x / 2 ^ (7 * (9 + 1)) = 0 := Nat.div_eq_of_lt (by omega)
    have : ∀ m, x / 2 ^ (7 * (m + 1)) = 0 → ∃ j, x / 2 ^ (7 * (j + 1)) = 0 ∧ (j = 0 ∨ x / 2 ^ (7 * j) ≠ 0) := by
      intro m
      induction m with
      | zero => intro h; exact ⟨0, h, .inl rfl⟩
      | succ m ih =>
        intro h
        by_cases hz : x / 2 ^ (7 * (m + 1)) = 0
        · exact ih hz
        · exact ⟨m + 1, h, .inr hz⟩
    exact this 9 h0
  obtain ⟨j, h1, h2⟩ := h
  have e := topk_of x j hx h1 h2
  rw [e]
  refine ⟨h1, h2.imp id fun h => ?_⟩
  have := div_step x j
  omega

theorem dec_back (x : Nat) (hx : x ≤ 18446744073709551615) (rest : List Int) : decFrom 0 0 (enc x ++ rest) = (x, (enc x).length, 0) := by
  obtain ⟨h1, h2⟩ := topk_spec x hx
  have h := dec_enc x hx rest (topk x) 0 (fun _ => h2)
  rw [h1] at h
  rw [enc, h, encAt_length]
  simp

theorem dec_part (x c : Nat) (hx : x ≤ 18446744073709551615) (hc : c < (enc x).length) : decFrom 0 0 ((enc x).take c) = (0, 0, 21) := by
  obtain ⟨h1, h2⟩ := topk_spec x hx
  have h := dec_short x hx (topk x) 0 c (by rw [enc_length] at hc; omega) (fun _ => h2)
  rw [h1] at h
  exact h

theorem numR_back (x most : Nat) (rest : List Int) (hx : x ≤ 18446744073709551615) (hm : x ≤ most) : numR most (enc x ++ rest, 0) = (x, rest, 0) := by
  unfold numR
  rw [dec_back x hx]
  simp [Nat.not_lt.2 hm]

theorem numR_part (x c most : Nat) (hx : x ≤ 18446744073709551615) (hc : c < (enc x).length) : numR most ((enc x).take c, 0) = (0, [], 21) := by
  unfold numR
  rw [dec_part x c hx hc]
  simp

theorem lumpR_back (l rest : List Int) (most : Int) (hl : (l.length : Int) ≤ most) (hx : l.length ≤ 18446744073709551615) : lumpR most (enc l.length ++ (l ++ rest), 0) = (l, rest, 0) := by
  unfold lumpR
  rw [numR_back l.length _ _ hx (by omega)]
  simp

end Go.Proofs.Ytmcphlklknfbmaa
