/- Sets of bits as natural numbers: what is had, the set of a list, the list of a set. Nothing here speaks of the program but the last four walks. -/
import Derived.Test.YthffheakhadlhaaNums
import Derived.Laws.BitsAllLaws
namespace Go.Proofs.Ythffheakhadlhaa
open Go.RowKit

/-- p has all that n needs. -/
def hasB (p n : Nat) : Bool := n &&& p == n
theorem hasB_iff {p n : Nat} : hasB p n = true ↔ ∀ j, n.testBit j = true → p.testBit j = true := by
  unfold hasB
  rw [beq_iff_eq]
  constructor
  · intro h j hj
    have := congrArg (fun x => x.testBit j) h
    simp only [Nat.testBit_and, hj, Bool.true_and] at this
    exact this
  · intro h
    refine Nat.eq_of_testBit_eq fun j => ?_
    rw [Nat.testBit_and]
    cases hn : n.testBit j with
    | true => rw [h j hn]; rfl
    | false => rfl
theorem hasB_zero (p : Nat) : hasB p 0 = true := by simp [hasB]
theorem hasB_or (p a b : Nat) : hasB p (a ||| b) = (hasB p a && hasB p b) := by
  rw [Bool.eq_iff_iff, Bool.and_eq_true, hasB_iff, hasB_iff, hasB_iff]
  constructor
  · intro h
    exact ⟨fun j hj => h j (by rw [Nat.testBit_or, hj]; rfl), fun j hj => h j (by rw [Nat.testBit_or, hj]; simp)⟩
  · intro ⟨h1, h2⟩ j hj
    rw [Nat.testBit_or, Bool.or_eq_true] at hj
    exact hj.elim (h1 j) (h2 j)
theorem hasB_more {p a : Nat} (m : Nat) (h : hasB p a = true) : hasB (p ||| m) a = true := by
  rw [hasB_iff] at h ⊢
  intro j hj
  rw [Nat.testBit_or, h j hj]; rfl
theorem hasB_and (p n : Nat) : hasB p (n &&& p) = true := by
  rw [hasB_iff]
  intro j hj
  rw [Nat.testBit_and, Bool.and_eq_true] at hj
  exact hj.2
theorem not_bit {p : Nat} (hp : p < 4294967296) (j : Nat) : (4294967295 - p).testBit j = (decide (j < 32) && !p.testBit j) := by
  have h := Nat.testBit_two_pow_sub_succ (n := 32) (x := p) hp j
  rw [show 2 ^ 32 - (p + 1) = 4294967295 - p from by omega] at h
  exact h
theorem low_bit {p j : Nat} (hp : p < 4294967296) (h : p.testBit j = true) : j < 32 := by
  rcases Nat.lt_or_ge j 32 with h1 | h1
  · exact h1
  · have h2 : p < 2 ^ j := Nat.lt_of_lt_of_le hp (Nat.pow_le_pow_right (by omega) h1 : 2 ^ 32 ≤ 2 ^ j)
    rw [Nat.testBit_lt_two_pow h2] at h; cases h
/-- By the program: nothing of n is left when p is taken away. -/
theorem has_prog {p n : Nat} (hp : p < 4294967296) (hn : n < 4294967296) : (bits .andNot .u32 (n : Int) (p : Int) == 0) = hasB p n := by
  rw [u32_andNot_nat n p hn hp, Bool.eq_iff_iff, hasB_iff, beq_iff_eq]
  rw [show ((n &&& (4294967295 - p) : Nat) : Int) = 0 ↔ n &&& (4294967295 - p) = 0 from by omega]
  constructor
  · intro h j hj
    have h1 := congrArg (fun x => x.testBit j) h
    simp only [Nat.testBit_and, hj, Bool.true_and, Nat.zero_testBit, not_bit hp, low_bit hn hj, decide_true, Bool.not_eq_false'] at h1
    exact h1
  · intro h
    refine Nat.eq_of_testBit_eq fun j => ?_
    rw [Nat.testBit_and, not_bit hp, Nat.zero_testBit]
    cases hj : n.testBit j with
    | true => rw [h j hj]; simp
    | false => rfl
/-- By the reference. -/
theorem has_ref {p n : Nat} (hp : p < 4294967296) (hn : n < 4294967296) : (bits .and .u32 (p : Int) (n : Int) == (n : Int)) = hasB p n := by
  rw [u32_and_nat p n hp hn, Nat.and_comm, Bool.eq_iff_iff, beq_iff_eq]
  unfold hasB
  rw [beq_iff_eq]
  omega

/-- The set of a list: by steps from the left. -/
def ofS (l : List Int) : Nat := l.foldl (fun p x => if 0 ≤ x ∧ x < 16 then p ||| 2 ^ x.toNat else p) 0
theorem ofS_snoc (l : List Int) (x : Int) : ofS (l ++ [x]) = if 0 ≤ x ∧ x < 16 then ofS l ||| 2 ^ x.toNat else ofS l := by
  unfold ofS; rw [List.foldl_append]; rfl
theorem ofS_take {l : List Int} {k : Nat} (hk : k < l.length) : ofS (l.take (k + 1)) = if 0 ≤ l[k] ∧ l[k] < 16 then ofS (l.take k) ||| 2 ^ l[k].toNat else ofS (l.take k) := by
  rw [List.take_succ_eq_append_getElem hk, ofS_snoc]
theorem two_lt {x : Nat} (h : x < 16) : 2 ^ x < 65536 := Nat.pow_lt_pow_right (a := 2) (n := 16) (by decide) h
theorem take_ind {α : Type} {p : List α → Prop} (h0 : p []) (h1 : ∀ l x, p l → p (l ++ [x])) (l : List α) : p l := by
  have h : ∀ k, k ≤ l.length → p (l.take k) := by
    intro k
    induction k with
    | zero => intro _; simpa using h0
    | succ k ih =>
      intro hk
      rw [List.take_succ_eq_append_getElem (by omega)]
      exact h1 _ _ (ih (by omega))
  have := h l.length (Nat.le_refl _)
  rwa [List.take_length] at this
theorem ofS_lt (l : List Int) : ofS l < 65536 := by
  refine take_ind (p := fun l => ofS l < 65536) (by decide) ?_ l
  intro l x ih
  rw [ofS_snoc]
  split
  · rename_i h
    exact Nat.or_lt_two_pow (n := 16) ih (two_lt (x := x.toNat) (by omega))
  · exact ih
theorem ofS_bit (l : List Int) (j : Nat) : (ofS l).testBit j = decide (j < 16 ∧ (j : Int) ∈ l) := by
  refine take_ind (p := fun l => (ofS l).testBit j = decide (j < 16 ∧ (j : Int) ∈ l)) (by simp [ofS]) ?_ l
  intro l x ih
  rw [ofS_snoc]
  split
  · rename_i h
    rw [Nat.testBit_or, ih, Nat.testBit_two_pow, Bool.eq_iff_iff]
    simp only [Bool.or_eq_true, decide_eq_true_eq, List.mem_append, List.mem_singleton]
    constructor
    · rintro (⟨h1, h2⟩ | h1)
      · exact ⟨h1, .inl h2⟩
      · exact ⟨by omega, .inr (by omega)⟩
    · rintro ⟨h1, h2 | h2⟩
      · exact .inl ⟨h1, h2⟩
      · exact .inr (by omega)
  · rename_i h
    rw [ih, Bool.eq_iff_iff]
    simp only [decide_eq_true_eq, List.mem_append, List.mem_singleton]
    constructor
    · exact fun ⟨h1, h2⟩ => ⟨h1, .inl h2⟩
    · rintro ⟨h1, h2 | h2⟩
      · exact ⟨h1, h2⟩
      · exact (h (by omega)).elim

/-- The bits of p below k, ascending. -/
def onesK (p k : Nat) : List Nat := (List.range k).filter fun i => p.testBit i
def ones (p : Nat) : List Nat := onesK p 32
theorem onesK_yes {p k : Nat} (h : p.testBit k = true) : onesK p (k + 1) = onesK p k ++ [k] := by simp [onesK, List.range_succ, h]
theorem onesK_no {p k : Nat} (h : p.testBit k = false) : onesK p (k + 1) = onesK p k := by simp [onesK, List.range_succ, h]
theorem onesK_len (p k : Nat) : (onesK p k).length ≤ k := by
  have := List.length_filter_le (fun i => p.testBit i) (List.range k)
  simpa [onesK] using this
theorem onesK_end {p k : Nat} (h : p < 2 ^ k) : ∀ d, onesK p (k + d) = onesK p k
  | 0 => rfl
  | d + 1 => by
    rw [← onesK_end h d, ← Nat.add_assoc, onesK_no]
    exact Nat.testBit_lt_two_pow (Nat.lt_of_lt_of_le h (Nat.pow_le_pow_right (by omega) (by omega)))
theorem mem_ones {p j : Nat} : j ∈ ones p ↔ j < 32 ∧ p.testBit j = true := by simp [ones, onesK]
theorem mem_nats {l : List Nat} {j : Nat} : (j : Int) ∈ nats l ↔ j ∈ l := by
  unfold nats
  rw [List.mem_map]
  constructor
  · rintro ⟨a, h1, h2⟩
    obtain rfl : a = j := by omega
    exact h1
  · exact fun h => ⟨j, h, rfl⟩
/-- The list of a set is the set again: its privileges. -/
theorem of_ones (p : Nat) : ofS (nats (ones p)) = p % 65536 := by
  refine Nat.eq_of_testBit_eq fun j => ?_
  rw [ofS_bit, show (65536 : Nat) = 2 ^ 16 from rfl, Nat.testBit_mod_two_pow, Bool.eq_iff_iff]
  simp only [Bool.and_eq_true, decide_eq_true_eq, mem_nats, mem_ones]
  constructor
  · exact fun ⟨h1, _, h3⟩ => ⟨h1, h3⟩
  · exact fun ⟨h1, h2⟩ => ⟨h1, by omega, h2⟩

theorem right_any (p : Nat) (w : World) (hp : p < 4294967296) :
    Calls Try.prog 6 #[.int .u32 p] w fun e w' => e = .returned (.bool (decide (p < 65536))) ∧ w = w' := by
  have d1 : ((p : Int) / 65536 == 0) = decide (p < 65536) := by
    rw [Bool.eq_iff_iff, beq_iff_eq, decide_eq_true_iff]; omega
  generalize decide (p < 65536) = z at *
  go_enter Try.func6, Try.ntmps6
  go_wp2_with fail
  go_ret
  exact ⟨rfl, rfl⟩

theorem privs_any (p : Nat) (w : World) (_hp : p < 4294967296) :
    Calls Try.prog 7 #[.int .u32 p] w fun e w' => e = .returned (.bool (decide (p < 65536))) ∧ w = w' := by
  have d1 : decide ((p : Int) < 65536) = decide (p < 65536) := by
    rw [Bool.eq_iff_iff, decide_eq_true_iff, decide_eq_true_iff]; omega
  generalize decide (p < 65536) = z at *
  go_enter Try.func7, Try.ntmps7
  go_wp2_with fail
  go_ret
  exact ⟨rfl, rfl⟩

theorem has_any (p n : Nat) (w : World) (hp : p < 4294967296) (hn : n < 4294967296) :
    Calls Try.prog 8 #[.int .u32 p, .int .u32 n] w fun e w' => e = .returned (.bool (hasB p n)) ∧ w = w' := by
  have d1 := has_prog hp hn
  generalize hasB p n = z at *
  go_enter Try.func8, Try.ntmps8
  go_wp2_with fail
  go_ret
  exact ⟨rfl, rfl⟩

theorem refHas_any (p n : Nat) (w : World) (hp : p < 4294967296) (hn : n < 4294967296) :
    Calls Try.prog 9 #[.int .u32 p, .int .u32 n] w fun e w' => e = .returned (.bool (hasB p n)) ∧ w = w' := by
  have d1 := has_ref hp hn
  generalize hasB p n = z at *
  go_enter Try.func9, Try.ntmps9
  go_wp2_with fail
  go_ret
  exact ⟨rfl, rfl⟩

end Go.Proofs.Ythffheakhadlhaa
