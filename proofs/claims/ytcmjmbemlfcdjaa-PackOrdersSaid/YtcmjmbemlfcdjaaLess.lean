/- Plain facts: encodings of one length are in order as their numbers; none is the beginning of a longer one. -/
import Derived.Test.YtcmjmbemlfcdjaaBack
import Derived.Laws.BytesArg
import Derived.Laws.Strings
namespace Go.Proofs.Ytcmjmbemlfcdjaa
open Go

def u8l (l : List Int) : List UInt8 := l.map fun n => UInt8.ofNat n.toNat

theorem less_of {a b : Nat} (ha : a < 256) (hb : b < 256) : decide (UInt8.ofNat a < UInt8.ofNat b) = decide (a < b) := by
  have : UInt8.ofNat a < UInt8.ofNat b ↔ a < b := by
    rw [UInt8.lt_iff_toNat_lt, UInt8.toNat_ofNat', UInt8.toNat_ofNat']
    rw [Nat.mod_eq_of_lt ha, Nat.mod_eq_of_lt hb]
  simp [this]
theorem same_of {a b : Nat} (ha : a < 256) (hb : b < 256) : (UInt8.ofNat a == UInt8.ofNat b) = decide (a = b) := by
  by_cases h : a = b
  · simp [h]
  · have : ¬ UInt8.ofNat a = UInt8.ofNat b := fun e => h (by
      have e2 := congrArg UInt8.toNat e
      rw [UInt8.toNat_ofNat', UInt8.toNat_ofNat', Nat.mod_eq_of_lt ha, Nat.mod_eq_of_lt hb] at e2; exact e2)
    simp [h, this]

theorem less_step (p a b c d : Nat) (hc : c < p) (hd : d < p) : (a < b ∨ a = b ∧ c < d) ↔ c + p * a < d + p * b := by
  rcases Nat.lt_trichotomy a b with h | h | h
  · have h1 : p * (a + 1) ≤ p * b := Nat.mul_le_mul_left p h
    rw [Nat.mul_add] at h1
    constructor
    · intro _; omega
    · intro _; exact .inl h
  · subst h
    constructor
    · rintro (h | ⟨_, h⟩) <;> omega
    · intro h; exact .inr ⟨rfl, by omega⟩
  · have h1 : p * (b + 1) ≤ p * a := Nat.mul_le_mul_left p h
    rw [Nat.mul_add] at h1
    constructor
    · rintro (h | ⟨h, _⟩) <;> omega
    · intro _; omega

theorem less_encAt (x y : Nat) : ∀ k, Op.bytesLess (u8l (encAt x k)) (u8l (encAt y k)) = decide (x % 2 ^ (7 * (k + 1)) < y % 2 ^ (7 * (k + 1))) := by
  intro k
  induction k with
  | zero =>
    simp only [encAt, u8l, List.map_cons, List.map_nil, Op.bytesLess, Bool.and_false, Bool.or_false, Int.toNat_natCast]
    rw [less_of (by omega) (by omega)]
  | succ k ih =>
    have hl : Op.bytesLess (u8l (encAt x (k + 1))) (u8l (encAt y (k + 1))) =
        (decide (128 + x / 2 ^ (7 * (k + 1)) % 128 < 128 + y / 2 ^ (7 * (k + 1)) % 128) || (decide (128 + x / 2 ^ (7 * (k + 1)) % 128 = 128 + y / 2 ^ (7 * (k + 1)) % 128) && Op.bytesLess (u8l (encAt x k)) (u8l (encAt y k)))) := by
      simp only [encAt, u8l, List.map_cons, Op.bytesLess, Int.toNat_natCast]
      rw [less_of (by omega) (by omega), same_of (by omega) (by omega)]
    rw [hl, ih]
    have e : 2 ^ (7 * (k + 1 + 1)) = 2 ^ (7 * (k + 1)) * 128 := by rw [show 7 * (k + 1 + 1) = 7 * (k + 1) + 7 from by omega, Nat.pow_add]
    have hp := Nat.two_pow_pos (7 * (k + 1))
    have h := less_step (2 ^ (7 * (k + 1))) (x / 2 ^ (7 * (k + 1)) % 128) (y / 2 ^ (7 * (k + 1)) % 128) (x % 2 ^ (7 * (k + 1))) (y % 2 ^ (7 * (k + 1))) (Nat.mod_lt _ hp) (Nat.mod_lt _ hp)
    rw [e, Nat.mod_mul, Nat.mod_mul]
    rw [Bool.eq_iff_iff]
    simp only [Bool.or_eq_true, Bool.and_eq_true, decide_eq_true_eq]
    rw [← h]
    omega

theorem str_toList (l : List Int) : (strOfNums l).toList = u8l l := by rw [ByteArray.toList_eq]; rfl
theorem str_size (l : List Int) : (strOfNums l).size = l.length := strOfNums_size l
theorem str_cut (l : List Int) (n : Nat) : ((strOfNums l).extract 0 n).toList = (u8l l).take n := by
  rw [ByteArray.toList_eq, ByteArray.data_extract]
  simp [strOfNums, u8l]

theorem enc_below (x : Nat) (hx : x ≤ 18446744073709551615) : x < 2 ^ (7 * (topk x + 1)) := by
  have h := (topk_spec x hx).1
  rcases Nat.lt_or_ge x (2 ^ (7 * (topk x + 1))) with h2 | h2
  · exact h2
  · have := Nat.div_pos h2 (Nat.two_pow_pos _); omega

theorem less_same (x y : Nat) (hx : x ≤ 18446744073709551615) (hy : y ≤ 18446744073709551615) (h : (enc x).length = (enc y).length) :
    Op.bytesLess (strOfNums (enc x)).toList (strOfNums (enc y)).toList = decide (x < y) := by
  have hk : topk x = topk y := by rw [enc_length, enc_length] at h; omega
  rw [str_toList, str_toList]
  unfold enc
  rw [← hk, less_encAt, Nat.mod_eq_of_lt (enc_below x hx), Nat.mod_eq_of_lt (by rw [hk]; exact enc_below y hy)]

theorem less_short (x y : Nat) (hx : x ≤ 18446744073709551615) (hy : y ≤ 18446744073709551615) (h : (enc x).length < (enc y).length) : x < y := by
  rw [enc_length, enc_length] at h
  have h1 := enc_below x hx
  have h2 := (topk_spec y hy).2
  have h3 : 2 ^ (7 * topk y) ≤ y := by
    rcases Nat.lt_or_ge y (2 ^ (7 * topk y)) with h4 | h4
    · rw [Nat.div_eq_of_lt h4] at h2
      rcases h2 with h2 | h2
      · omega
      · exact absurd rfl h2
    · exact h4
  have h5 : 2 ^ (7 * (topk x + 1)) ≤ 2 ^ (7 * topk y) := Nat.pow_le_pow_right (by omega) (by omega)
  omega

theorem encAt_last (x : Nat) : ∀ k, (encAt x k)[k]? = some ((x % 128 : Nat) : Int) := by
  intro k
  induction k with
  | zero => rfl
  | succ k ih => simpa [encAt] using ih
theorem encAt_lead (x : Nat) : ∀ k i, i < k → ∃ m : Nat, m < 128 ∧ (encAt x k)[i]? = some ((128 + m : Nat) : Int) := by
  intro k
  induction k with
  | zero => intro i h; omega
  | succ k ih =>
    intro i h
    cases i with
    | zero => exact ⟨x / 2 ^ (7 * (k + 1)) % 128, by omega, by simp [encAt]⟩
    | succ i =>
      obtain ⟨m, h1, h2⟩ := ih i (by omega)
      exact ⟨m, h1, by simpa [encAt] using h2⟩

theorem cut_differs (x y : Nat) (h : (enc x).length < (enc y).length) :
    (((strOfNums (enc y)).extract 0 (strOfNums (enc x)).size).toList == (strOfNums (enc x)).toList) = false := by
  rw [str_cut, str_toList, str_size]
  have hk : topk x < topk y := by rw [enc_length, enc_length] at h; omega
  refine beq_eq_false_iff_ne.2 fun e => ?_
  have e2 := congrArg (fun l => l[topk x]?) e
  obtain ⟨m, h1, h2⟩ := encAt_lead y (topk y) (topk x) hk
  have h3 := encAt_last x (topk x)
  have h4 : topk x < (encAt x (topk x)).length := by rw [encAt_length]; omega
  simp only [List.getElem?_take, h4, if_true, u8l, List.getElem?_map, enc, h2, h3, Option.map_some, Option.some.injEq] at e2
  have e3 := congrArg UInt8.toNat e2
  rw [UInt8.toNat_ofNat', UInt8.toNat_ofNat'] at e3
  omega

theorem way_same {x y : Nat} (hx : x ≤ 18446744073709551615) (hy : y ≤ 18446744073709551615) (h : (((strOfNums (enc x)).size : Int) == ((strOfNums (enc y)).size : Int)) = true) :
    Ending.returned (.bool (Op.bytesLess (strOfNums (enc x)).toList (strOfNums (enc y)).toList == decide (x < y))) = .returned (.bool true) := by
  have e : (enc x).length = (enc y).length := by rw [str_size, str_size] at h; have := beq_iff_eq.1 h; omega
  rw [less_same x y hx hy e]; simp
theorem way_cut {x y : Nat} (h : (strOfNums (enc x)).size < (strOfNums (enc y)).size) :
    Ending.returned (.bool !((strOfNums (enc y)).extract 0 (strOfNums (enc x)).size).toList == (strOfNums (enc x)).toList) = .returned (.bool true) := by
  rw [cut_differs x y (by rw [str_size, str_size] at h; exact h)]; rfl
theorem way_less {x y : Nat} (hx : x ≤ 18446744073709551615) (hy : y ≤ 18446744073709551615) (h : (strOfNums (enc x)).size < (strOfNums (enc y)).size) : x < y :=
  less_short x y hx hy (by rw [str_size, str_size] at h; exact h)
theorem way_some {x : Nat} (hx : x ≤ 18446744073709551615) : 0 < (strOfNums (enc x)).size := by
  rw [str_size]; exact (enc_length_le x (by omega)).1
theorem way_other {x y : Nat} (h : (((strOfNums (enc x)).size : Int) == ((strOfNums (enc y)).size : Int)) = false) (h2 : ¬ (strOfNums (enc y)).size < (strOfNums (enc x)).size) : (strOfNums (enc x)).size < (strOfNums (enc y)).size := by
  have e : ¬ ((strOfNums (enc x)).size : Int) = ((strOfNums (enc y)).size : Int) := beq_eq_false_iff_ne.1 h
  omega

end Go.Proofs.Ytcmjmbemlfcdjaa
