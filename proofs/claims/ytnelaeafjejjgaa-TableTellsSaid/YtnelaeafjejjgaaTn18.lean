/- More on round tables: lists out of bytes, whether a label has a round at all, all labels together, the first round looked for from behind. Nothing here speaks of the program. -/
import Derived.Test.YtnelaeafjejjgaaTm18
namespace Go.Proofs.Ytnelaeafjejjgaa
set_option maxRecDepth 100000

def modL (M : Int) (l : List Int) : List Int := l.map (· % M)
theorem modL_length (M : Int) (l : List Int) : (modL M l).length = l.length := by simp [modL]
theorem modL_step {M : Int} {l : List Int} {k : Nat} (h : k < l.length) : modL M (l.take (k + 1)) = modL M (l.take k) ++ [l[k] % M] := by
  unfold modL; rw [List.take_succ_eq_append_getElem h, List.map_append]; rfl
theorem modL_get {M : Int} {l : List Int} {k : Nat} (h : k < l.length) : (modL M l)[k]'(by rw [modL_length]; exact h) = l[k] % M := by simp [modL]
theorem modL_range {M : Int} (hM : 0 < M) {l : List Int} : ∀ x ∈ modL M l, 0 ≤ x ∧ x < M := by
  intro x hx
  obtain ⟨y, _, rfl⟩ := List.mem_map.1 hx
  exact ⟨Int.emod_nonneg _ (by omega), Int.emod_lt_of_pos _ hM⟩
theorem atN_mem {l : List Int} (hp : 0 < l.length) (r : Nat) : atN l r ∈ l := by
  have h := Nat.mod_lt r hp
  unfold atN
  simp only [List.getD, List.getElem?_eq_getElem h, Option.getD_some]
  exact List.getElem_mem h

theorem hit_step {l : List Int} {c : Int} {a : Nat} (h : atN l a = c) : cntR l c (a + 1) = cntR l c a + 1 := by
  show cntR l c a + (if atN l a == c then 1 else 0) = _
  rw [h]; simp
theorem miss_step {l : List Int} {c : Int} {a : Nat} (h : atN l a ≠ c) : cntR l c (a + 1) = cntR l c a := by
  show cntR l c a + (if atN l a == c then 1 else 0) = _
  simp [h]
/-- A label has a round in each period, or none at all. -/
theorem own_zero {l : List Int} {c : Int} {R : Nat} (h : ∀ i, i < l.length → atN l (R + i) ≠ c) : cntL l c l.length = 0 := by
  rw [cntL_R l c _ (Nat.le_refl _)]
  have h1 := cntR_none l c R l.length h
  have h2 := cntR_turn l c R
  omega
theorem own_pos {l : List Int} {c : Int} {R k : Nat} (hk : k < l.length) (h : atN l (R + k) = c) : cntL l c l.length ≠ 0 := by
  rw [cntL_R l c _ (Nat.le_refl _)]
  have h1 := hit_step h
  have h2 := cntR_turn l c R
  have h3 := cntR_mono' l c (a := R) (b := R + k) (by omega)
  have h4 := cntR_mono' l c (a := R + k + 1) (b := R + l.length) (by omega)
  omega
theorem zero_all {l : List Int} {c : Int} (hp : 0 < l.length) (h : cntL l c l.length = 0) (a d : Nat) : cntR l c (a + d) - cntR l c a = 0 := by
  rw [cntL_R l c _ (Nat.le_refl _)] at h
  have h1 := cntR_turns l c a d
  rw [h, Nat.mul_zero, Nat.add_zero] at h1
  have h2 : d ≤ d * l.length := Nat.le_mul_of_pos_right d hp
  have h3 := cntR_mono' l c (a := a + d) (b := a + d * l.length) (by omega)
  omega
theorem turns_diff (l : List Int) (c : Int) (a n : Nat) : cntR l c (a + n * l.length) - cntR l c a = n * cntL l c l.length := by
  rw [cntR_turns, cntL_R l c _ (Nat.le_refl _)]; omega
theorem none_diff {l : List Int} {c : Int} {a d : Nat} (h : ∀ i, i < d → atN l (a + i) ≠ c) : cntR l c (a + d) - cntR l c a = 0 := by
  rw [cntR_none l c a d h]; omega

/-- All labels below i together. -/
def sumR (l : List Int) (a b : Nat) : Nat → Nat
  | 0 => 0
  | i + 1 => sumR l a b i + (cntR l (i : Nat) b - cntR l (i : Nat) a)
theorem four {l : List Int} (hp : 0 < l.length) (hr : ∀ x ∈ l, 0 ≤ x ∧ x < 4) : ∀ n, cntR l 0 n + cntR l 1 n + cntR l 2 n + cntR l 3 n = n
  | 0 => rfl
  | n + 1 => by
    have ih := four hp hr n
    have hx := hr _ (atN_mem hp n)
    rcases (by omega : atN l n = 0 ∨ atN l n = 1 ∨ atN l n = 2 ∨ atN l n = 3) with h | h | h | h
    · rw [hit_step h, miss_step (c := 1) (by omega), miss_step (c := 2) (by omega), miss_step (c := 3) (by omega)]; omega
    · rw [hit_step h, miss_step (c := 0) (by omega), miss_step (c := 2) (by omega), miss_step (c := 3) (by omega)]; omega
    · rw [hit_step h, miss_step (c := 0) (by omega), miss_step (c := 1) (by omega), miss_step (c := 3) (by omega)]; omega
    · rw [hit_step h, miss_step (c := 0) (by omega), miss_step (c := 1) (by omega), miss_step (c := 2) (by omega)]; omega
theorem sum_four {l : List Int} (hp : 0 < l.length) (hr : ∀ x ∈ l, 0 ≤ x ∧ x < 4) (a d : Nat) : sumR l a (a + d) 4 = d := by
  have h1 := four hp hr a
  have h2 := four hp hr (a + d)
  have m0 := cntR_mono l 0 a d
  have m1 := cntR_mono l 1 a d
  have m2 := cntR_mono l 2 a d
  have m3 := cntR_mono l 3 a d
  show 0 + (cntR l (0 : Nat) (a + d) - cntR l (0 : Nat) a) + (cntR l (1 : Nat) (a + d) - cntR l (1 : Nat) a) + (cntR l (2 : Nat) (a + d) - cntR l (2 : Nat) a) + (cntR l (3 : Nat) (a + d) - cntR l (3 : Nat) a) = d
  simp only [show ((1 : Nat) : Int) = 1 from rfl, show ((2 : Nat) : Int) = 2 from rfl, show ((3 : Nat) : Int) = 3 from rfl, show ((0 : Nat) : Int) = 0 from rfl]
  omega
theorem sumR_le (l : List Int) (a d : Nat) : ∀ i, sumR l a (a + d) i ≤ i * d
  | 0 => Nat.zero_le _
  | i + 1 => by
    have ih := sumR_le l a d i
    have h1 : cntR l (i : Nat) (a + d) - cntR l (i : Nat) a ≤ d := by
      have : ∀ d, cntR l (i : Nat) (a + d) ≤ cntR l (i : Nat) a + d := by
        intro d
        induction d with
        | zero => exact Nat.le_refl _
        | succ d ih =>
          rw [← Nat.add_assoc]
          show cntR l (i : Nat) (a + d) + _ ≤ _
          split <;> omega
      have := this d
      omega
    show sumR l a (a + d) i + _ ≤ _
    rw [Nat.add_mul]
    omega

/-- The first hit from place a of the period that begins at R, or -1. -/
def wantN (l : List Int) (c : Int) (R a : Nat) : Int := match firstN (isAt l c (R + a)) (l.length - a) with
  | some i => ((R + a + i : Nat) : Int)
  | none => -1
theorem want_end (l : List Int) (c : Int) (R : Nat) : wantN l c R l.length = -1 := by
  unfold wantN; rw [Nat.sub_self]; rfl
theorem want_zero (l : List Int) (c : Int) (R : Nat) : wantN l c R 0 = nextN l c R := rfl
theorem want_hit {l : List Int} {c : Int} {R a : Nat} (h : a < l.length) (hh : atN l (R + a) = c) : wantN l c R a = ((R + a : Nat) : Int) := by
  unfold wantN
  rw [firstN_some (k := 0) (by simp [isAt, hh]) (fun i hi => by omega) (by omega)]
  rfl
theorem want_miss {l : List Int} {c : Int} {R a : Nat} (h : a < l.length) (hh : atN l (R + a) ≠ c) : wantN l c R a = wantN l c R (a + 1) := by
  unfold wantN
  rcases firstN_cases (isAt l c (R + (a + 1))) (l.length - (a + 1)) with ⟨h1, ha⟩ | ⟨k, h1, hk, hp, ha⟩
  · rw [h1, firstN_none]
    intro i hi
    rcases Nat.eq_zero_or_pos i with rfl | h0
    · simp [isAt, hh]
    · have := ha (i - 1) (by omega)
      unfold isAt at this ⊢
      rwa [show R + (a + 1) + (i - 1) = R + a + i from by omega] at this
  · rw [h1, firstN_some (k := k + 1)]
    · show ((R + a + (k + 1) : Nat) : Int) = ((R + (a + 1) + k : Nat) : Int)
      omega
    · unfold isAt at hp ⊢
      rwa [show R + (a + 1) + k = R + a + (k + 1) from by omega] at hp
    · intro i hi
      rcases Nat.eq_zero_or_pos i with rfl | h0
      · simp [isAt, hh]
      · have := ha (i - 1) (by omega)
        unfold isAt at this ⊢
        rwa [show R + (a + 1) + (i - 1) = R + a + i from by omega] at this
    · omega
theorem want_lo (l : List Int) (c : Int) (R a : Nat) : wantN l c R a = -1 ∨ 0 ≤ wantN l c R a := by
  unfold wantN
  split
  · right; omega
  · left; rfl

end Go.Proofs.Ytnelaeafjejjgaa
