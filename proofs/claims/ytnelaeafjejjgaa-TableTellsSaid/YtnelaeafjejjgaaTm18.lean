/- Round tables as plain functions: whose a round is, the next round of a label, how many rounds are whose. Nothing here speaks of the program. -/
import Derived.Test.YtnelaeafjejjgaaRows
namespace Go.Proofs.Ytnelaeafjejjgaa
set_option maxRecDepth 100000

/-- The first number below n that holds. -/
def firstN (p : Nat → Bool) : Nat → Option Nat
  | 0 => none
  | n + 1 => match firstN p n with
    | some i => some i
    | none => if p n then some n else none
theorem firstN_none {p : Nat → Bool} : ∀ {n : Nat}, (∀ i, i < n → p i = false) → firstN p n = none
  | 0, _ => rfl
  | n + 1, h => by
    unfold firstN
    rw [firstN_none (n := n) (fun i hi => h i (by omega)), h n (by omega)]; rfl
theorem firstN_some {p : Nat → Bool} {k : Nat} (hp : p k = true) (h : ∀ i, i < k → p i = false) : ∀ {n : Nat}, k < n → firstN p n = some k
  | 0, hk => by omega
  | n + 1, hk => by
    unfold firstN
    rcases Nat.lt_or_ge k n with h1 | h1
    · rw [firstN_some hp h h1]
    · obtain rfl : k = n := by omega
      rw [firstN_none h]; simp [hp]
theorem firstN_cases (p : Nat → Bool) : ∀ n : Nat, (firstN p n = none ∧ ∀ i, i < n → p i = false) ∨ ∃ k, firstN p n = some k ∧ k < n ∧ p k = true ∧ ∀ i, i < k → p i = false
  | 0 => .inl ⟨rfl, fun i hi => by omega⟩
  | n + 1 => by
    rcases firstN_cases p n with ⟨h, ha⟩ | ⟨k, h, hk, hp, ha⟩
    · cases hn : p n with
      | true => exact .inr ⟨n, by unfold firstN; rw [h]; simp [hn], by omega, hn, ha⟩
      | false =>
        refine .inl ⟨by unfold firstN; rw [h]; simp [hn], fun i hi => ?_⟩
        rcases Nat.lt_or_ge i n with h1 | h1
        · exact ha i h1
        · obtain rfl : i = n := by omega
          exact hn
    · exact .inr ⟨k, by unfold firstN; rw [h], by omega, hp, ha⟩

def rightZ (l : List Int) (n : Int) : Bool := l.all (fun x => decide (0 ≤ x) && decide (x < n)) && (decide (1 ≤ l.length) && decide (l.length ≤ 64))
def hasAllZ (l : List Int) (n : Int) : Bool := (List.range (min n.toNat 65)).all fun k => l.contains (k : Int)
def allZ (l : List Int) (n : Int) : Bool := rightZ l n && hasAllZ l n
/-- Whose a round is (of a table that is not empty). -/
def atN (l : List Int) (r : Nat) : Int := l.getD (r % l.length) 0
def atZ (l : List Int) (r : Int) : Int := if l.length = 0 then -1 else atN l (max r 0).toNat
def isAt (l : List Int) (c : Int) (R i : Nat) : Bool := atN l (R + i) == c
def nextN (l : List Int) (c : Int) (R : Nat) : Int := match firstN (isAt l c R) l.length with
  | some i => ((R + i : Nat) : Int)
  | none => -1
def nextZ (l : List Int) (c r : Int) : Int := nextN l c (max r 0).toNat
/-- How many of the first n rounds are c's. -/
def cntR (l : List Int) (c : Int) : Nat → Nat
  | 0 => 0
  | n + 1 => cntR l c n + if atN l n == c then 1 else 0
def slotsZ (l : List Int) (c f t : Int) : Int := if l.length = 0 then 0 else ((cntR l c (max t 0).toNat - cntR l c (max f 0).toNat : Nat) : Int)

theorem cntR_le (l : List Int) (c : Int) : ∀ n, cntR l c n ≤ n
  | 0 => Nat.le_refl _
  | n + 1 => by
    have := cntR_le l c n
    unfold cntR
    split <;> omega
theorem cntR_mono (l : List Int) (c : Int) (a : Nat) : ∀ d, cntR l c a ≤ cntR l c (a + d)
  | 0 => Nat.le_refl _
  | d + 1 => by
    have := cntR_mono l c a d
    rw [← Nat.add_assoc]
    show _ ≤ cntR l c (a + d) + _
    omega
theorem cntR_mono' (l : List Int) (c : Int) {a b : Nat} (h : a ≤ b) : cntR l c a ≤ cntR l c b := by
  have := cntR_mono l c a (b - a)
  rwa [Nat.add_sub_cancel' h] at this
theorem atN_turn (l : List Int) (a : Nat) : atN l (a + l.length) = atN l a := by unfold atN; rw [Nat.add_mod_right]
theorem atN_turns (l : List Int) (a k : Nat) : atN l (a + k * l.length) = atN l a := by unfold atN; rw [Nat.add_mul_mod_self_right]
theorem cntR_turn (l : List Int) (c : Int) : ∀ a, cntR l c (a + l.length) = cntR l c a + cntR l c l.length
  | 0 => by simp [cntR]
  | a + 1 => by
    have ih := cntR_turn l c a
    rw [show a + 1 + l.length = (a + l.length) + 1 from by omega]
    show cntR l c (a + l.length) + (if atN l (a + l.length) == c then 1 else 0) = (cntR l c a + if atN l a == c then 1 else 0) + _
    rw [atN_turn]; omega
theorem cntR_turns (l : List Int) (c : Int) (a : Nat) : ∀ k, cntR l c (a + k * l.length) = cntR l c a + k * cntR l c l.length
  | 0 => by simp
  | k + 1 => by
    have ih := cntR_turns l c a k
    rw [show a + (k + 1) * l.length = (a + k * l.length) + l.length from by rw [Nat.add_mul]; omega, cntR_turn, ih, Nat.add_mul]
    omega
theorem cntR_none (l : List Int) (c : Int) (a : Nat) : ∀ d, (∀ i, i < d → atN l (a + i) ≠ c) → cntR l c (a + d) = cntR l c a
  | 0, _ => rfl
  | d + 1, h => by
    have ih := cntR_none l c a d fun i hi => h i (by omega)
    rw [← Nat.add_assoc]
    show cntR l c (a + d) + (if atN l (a + d) == c then 1 else 0) = _
    have h1 := h d (by omega)
    rw [ih, if_neg (by simpa using h1)]; rfl
/-- Among the first k elements. -/
def cntL (l : List Int) (c : Int) (k : Nat) : Nat := ((l.take k).filter (· == c)).length
theorem cntL_step {l : List Int} {c : Int} {k : Nat} (h : k < l.length) : cntL l c (k + 1) = cntL l c k + if l[k] == c then 1 else 0 := by
  unfold cntL
  rw [List.take_succ_eq_append_getElem h, List.filter_append, List.length_append]
  cases hb : (l[k] == c) <;> simp [hb]
theorem atN_low {l : List Int} {k : Nat} (h : k < l.length) : atN l k = l[k] := by
  unfold atN; rw [Nat.mod_eq_of_lt h]; simp [List.getD, h]
theorem cntL_R (l : List Int) (c : Int) : ∀ k, k ≤ l.length → cntL l c k = cntR l c k
  | 0, _ => by simp [cntL, cntR]
  | k + 1, h => by
    rw [cntL_step (by omega), cntL_R l c k (by omega)]
    show _ = cntR l c k + _
    rw [atN_low (by omega)]
theorem cntL_le (l : List Int) (c : Int) (k : Nat) : cntL l c k ≤ k := by
  unfold cntL
  have h1 := List.length_filter_le (· == c) (l.take k)
  have h2 := List.length_take_le k l
  omega
/-- The rounds before R, counted by periods. -/
theorem cntR_div (l : List Int) (c : Int) (R : Nat) (h : 0 < l.length) : R / l.length * cntL l c l.length + cntL l c (R % l.length) = cntR l c R := by
  have hm := Nat.mod_lt R h
  rw [cntL_R l c _ (Nat.le_refl _), cntL_R l c _ (by omega)]
  have := cntR_turns l c (R % l.length) (R / l.length)
  rw [show R % l.length + R / l.length * l.length = R from by rw [Nat.mul_comm]; exact Nat.mod_add_div R _] at this
  omega
/-- The rounds from F to T, whole periods first. -/
theorem cntR_ref (l : List Int) (c : Int) (F T : Nat) (hF : F ≤ T) :
    cntR l c (T - (T - F) % l.length) = cntR l c F + (T - F) / l.length * cntL l c l.length := by
  rw [cntL_R l c _ (Nat.le_refl _), ← cntR_turns]
  congr 1
  have h1 := Nat.mod_add_div (T - F) l.length
  have h3 := Nat.mod_le (T - F) l.length
  rw [Nat.mul_comm] at h1
  omega

theorem nextN_cases (l : List Int) (c : Int) (R : Nat) : (nextN l c R = -1 ∧ ∀ i, i < l.length → atN l (R + i) ≠ c) ∨ ∃ k : Nat, nextN l c R = ((R + k : Nat) : Int) ∧ k < l.length ∧ atN l (R + k) = c ∧ ∀ i, i < k → atN l (R + i) ≠ c := by
  unfold nextN
  rcases firstN_cases (isAt l c R) l.length with ⟨h, ha⟩ | ⟨k, h, hk, hp, ha⟩
  · left; rw [h]; exact ⟨rfl, fun i hi => by have := ha i hi; simpa [isAt] using this⟩
  · right; refine ⟨k, by rw [h], hk, by simpa [isAt] using hp, fun i hi => by have := ha i hi; simpa [isAt] using this⟩
theorem nextN_yes {l : List Int} {c : Int} {R k : Nat} (hk : k < l.length) (hp : atN l (R + k) = c) (h : ∀ i, i < k → atN l (R + i) ≠ c) : nextN l c R = ((R + k : Nat) : Int) := by
  unfold nextN
  rw [firstN_some (p := isAt l c R) (k := k) (by simpa [isAt] using hp) (fun i hi => by have := h i hi; simpa [isAt] using this) hk]
theorem nextN_no {l : List Int} {c : Int} {R : Nat} (h : ∀ i, i < l.length → atN l (R + i) ≠ c) : nextN l c R = -1 := by
  unfold nextN
  rw [firstN_none (p := isAt l c R) (fun i hi => by have := h i hi; simpa [isAt] using this)]

/-- A list that holds 0 .. k - 1 is no shorter than k. -/
theorem long_of_all : ∀ (k : Nat) (l : List Int), (∀ j : Nat, j < k → (j : Int) ∈ l) → k ≤ l.length
  | 0, _, _ => Nat.zero_le _
  | k + 1, l, h => by
    have hk := h k (by omega)
    have ih := long_of_all k (l.erase (k : Int)) fun j hj => (List.mem_erase_of_ne (by omega)).2 (h j (by omega))
    rw [List.length_erase_of_mem hk] at ih
    have := List.length_pos_of_mem hk
    omega
theorem hasAllZ_iff {l : List Int} {n : Int} : hasAllZ l n = true ↔ ∀ j : Nat, j < n.toNat → j < 65 → (j : Int) ∈ l := by
  unfold hasAllZ
  rw [List.all_eq_true]
  constructor
  · intro h j h1 h2
    have := h j (by rw [List.mem_range]; omega)
    simpa using this
  · intro h j hj
    rw [List.mem_range] at hj
    have := h j (by omega) (by omega)
    simpa using this
theorem rightZ_iff {l : List Int} {n : Int} : rightZ l n = true ↔ (∀ x ∈ l, 0 ≤ x ∧ x < n) ∧ 1 ≤ l.length ∧ l.length ≤ 64 := by
  simp [rightZ]

end Go.Proofs.Ytnelaeafjejjgaa
