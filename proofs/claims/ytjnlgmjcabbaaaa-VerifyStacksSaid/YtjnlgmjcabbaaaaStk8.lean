/- So many pushes and so many pops: where they fail; as plain functions. -/
import Derived.Test.YtjnlgmjcabbaaaaLine8
namespace Go.Proofs.Ytjnlgmjcabbaaaa
set_option maxRecDepth 100000
open Go.RowKit

def pushL (k : Nat) : CodeL := (List.range k).map (fun (i : Nat) => ((1 : Int), (i : Int)))
def popL (p : Nat) : CodeL := List.replicate p (2, 0)
def stk (k p : Nat) : CodeL := pushL k ++ popL p ++ [(26, 0)]
theorem pushL_succ (k : Nat) : pushL (k + 1) = pushL k ++ [(1, (k : Int))] := by unfold pushL; rw [List.range_succ]; simp
theorem popL_succ (p : Nat) : popL (p + 1) = popL p ++ [(2, 0)] := List.replicate_succ'
theorem pushL_length (k : Nat) : (pushL k).length = k := by simp [pushL]
theorem popL_length (p : Nat) : (popL p).length = p := by simp [popL]
theorem stk_length (k p : Nat) : (stk k p).length = k + p + 1 := by simp [stk, pushL, popL]; omega
theorem stk_at (k p j : Nat) : (stk k p).getD j (0, 0) = if j < k then (1, (j : Int)) else if j < k + p then (2, 0) else if j = k + p then (26, 0) else (0, 0) := by
  unfold stk
  rw [List.getD_eq_getElem?_getD]
  by_cases h1 : j < k
  · rw [if_pos h1, List.append_assoc, List.getElem?_append_left (by rw [pushL_length]; exact h1)]
    simp [pushL, h1]
  · rw [if_neg h1]
    by_cases h2 : j < k + p
    · rw [if_pos h2, List.getElem?_append_left (by simp [pushL_length, popL_length]; exact h2), List.getElem?_append_right (by rw [pushL_length]; omega), pushL_length]
      simp [popL, show j - k < p by omega]
    · rw [if_neg h2, List.getElem?_append_right (by simp [pushL_length, popL_length]; omega)]
      simp only [List.length_append, pushL_length, popL_length]
      by_cases h3 : j = k + p
      · rw [if_pos h3, show j - (k + p) = 0 by omega]; rfl
      · rw [if_neg h3, List.getElem?_eq_none (by simp; omega)]; rfl
theorem stk_i32 {k p : Nat} (hk : k ≤ 1000) : ∀ x ∈ stk k p, I32 x.2 := by
  intro x hx
  unfold stk pushL popL at hx
  unfold I32
  rcases List.mem_append.1 hx with hx | hx
  · rcases List.mem_append.1 hx with hx | hx
    · obtain ⟨i, hi, rfl⟩ := List.mem_map.1 hx
      have := List.mem_range.1 hi
      constructor <;> simp <;> omega
    · rw [List.eq_of_mem_replicate hx]; decide
  · have : x = (26, 0) := by simpa using hx
    rw [this]; decide
theorem bad_push (f : CodeL) (fs ls gs : Int) (j : Nat) (a : Nat) (h1 : cop f j = 1) (h2 : carg f j = a) (ha : a ≤ 1000) : badI f fs ls gs j = false := by
  unfold badI; rw [h1, h2]
  have e : rightB 1 (a : Int) = true := right_one a
  rw [e]
  have e2 : boundZ f.length fs ls gs (argZ 1) = 9223372036854775807 := rfl
  rw [e2, decide_eq_false (by omega)]; rfl
where
  right_one (a : Nat) : rightB 1 (a : Int) = true := by
    unfold rightB
    have e1 : knownB 1 = true := rfl
    have e2 : argZ 1 = 1 := rfl
    rw [e1, e2, if_neg (by decide), decide_eq_true (by omega)]; rfl
theorem bad_pop (f : CodeL) (fs ls gs : Int) (j : Nat) (h1 : cop f j = 2) (h2 : carg f j = 0) : badI f fs ls gs j = false := by
  unfold badI; rw [h1, h2]; rfl
theorem bad_fail (f : CodeL) (fs ls gs : Int) (j : Nat) (h1 : cop f j = 26) (h2 : carg f j = 0) : badI f fs ls gs j = false := by
  unfold badI; rw [h1, h2]; rfl
theorem stk_valid (k p : Nat) (fs ls gs : Int) (hk : k ≤ 1000) : invalidO (stk k p) fs ls gs = none := by
  unfold invalidO
  refine firstO_all _ _ (fun j _ hj => ?_)
  rw [stk_length] at hj
  have h := stk_at k p j
  by_cases h1 : j < k
  · rw [if_pos h1] at h
    exact bad_push _ _ _ _ _ j (by unfold cop; rw [h]) (by unfold carg; rw [h]) (by omega)
  · rw [if_neg h1] at h
    by_cases h2 : j < k + p
    · rw [if_pos h2] at h
      exact bad_pop _ _ _ _ _ (by unfold cop; rw [h]) (by unfold carg; rw [h])
    · rw [if_neg h2, if_pos (by omega)] at h
      exact bad_fail _ _ _ _ _ (by unfold cop; rw [h]) (by unfold carg; rw [h])
def depS (k j : Nat) : Int := if j ≤ k then (j : Int) else 2 * (k : Int) - j
theorem stk_straight (k p t : Nat) (ht : t ≤ k + p) (hk : t ≤ 32 ∨ k ≤ 32) (h2 : t ≤ 2 * k) : Straight (stk k p) (depS k) t := by
  intro j hj
  rw [stk_length]
  have h := stk_at k p j
  by_cases h1 : j < k
  · rw [if_pos h1] at h
    have c1 : cop (stk k p) j = 1 := by unfold cop; rw [h]
    have e1 : popsZ 1 = 0 := rfl
    have e2 : pushesZ 1 = 1 := rfl
    have d1 : depS k j = j := by unfold depS; rw [if_pos (by omega)]
    have d2 : depS k (j + 1) = j + 1 := by unfold depS; rw [if_pos (by omega)]; omega
    refine ⟨by omega, ?_, ?_, ?_, ?_⟩
    · unfold nextL; rw [c1]; rfl
    · rw [c1, e1, d1]; omega
    · rw [c1, e1, e2, d1, d2]; omega
    · rw [d2]; omega
  · rw [if_neg h1, if_pos (by omega)] at h
    have c1 : cop (stk k p) j = 2 := by unfold cop; rw [h]
    have e1 : popsZ 2 = 1 := rfl
    have e2 : pushesZ 2 = 0 := rfl
    have d1 : depS k j = 2 * (k : Int) - j := by unfold depS; split <;> omega
    have d2 : depS k (j + 1) = 2 * (k : Int) - (j + 1) := by unfold depS; rw [if_neg (by omega)]; omega
    refine ⟨by omega, ?_, ?_, ?_, ?_⟩
    · unfold nextL; rw [c1]; rfl
    · rw [c1, e1, d1]; omega
    · rw [c1, e1, e2, d1, d2]; omega
    · rw [d2]; omega

theorem funcZ_of {f : CodeL} {fs ls gs : Int} (h1 : f.length ≤ 512) (h2 : 0 < f.length) (h3 : invalidO f fs ls gs = none) : funcZ f fs ls gs = resZ none (badO f) := by
  unfold funcZ; rw [if_neg (by omega), if_neg (by omega), h3]
/-- Where so many pushes and pops fail, or what they come to. -/
theorem stk_all (k p : Nat) (hk : k < 40) (hp : p < 44) : ∃ r1 r2 D, funcZ (stk k p) 1 1 0 = (r1, r2) ∧ depthsZ (stk k p) = D ∧
    (32 < k → r1 = 32 ∧ r2 = 24) ∧ (k ≤ 32 → k < p → r1 = 2 * (k : Int) ∧ r2 = 24) ∧ (k ≤ 32 → p ≤ k → r2 = 0 ∧ D.length = k + p + 1 ∧ D.getD (k + p) 0 = (k : Int) - p) := by
  have hl := stk_length k p
  have hf : ∀ fs ls gs, funcZ (stk k p) fs ls gs = resZ none (badO (stk k p)) := fun fs ls gs => funcZ_of (by omega) (by omega) (stk_valid k p fs ls gs (by omega))
  have d0 : depS k 0 = 0 := by unfold depS; rw [if_pos (Nat.zero_le _)]; rfl
  by_cases h1 : 32 < k
  · obtain ⟨s, hs, hr⟩ := St.run (f := stk k p) (by omega) d0 32 (by omega) (stk_straight k p 32 (by omega) (.inl (Nat.le_refl _)) (by omega))
    have c1 : cop (stk k p) 32 = 1 := by unfold cop; rw [stk_at, if_pos h1]
    have e := hs.stops (by omega) (.inr (by rw [c1]; have e1 : popsZ 1 = 0 := rfl; have e2 : pushesZ 1 = 1 := rfl; have d1 : depS k 32 = 32 := by { unfold depS; rw [if_pos (by omega)]; rfl }; rw [e1, e2, d1]; decide))
    have hb := bad_some hs (by omega) (hr.trans e)
    exact ⟨32, 24, _, by rw [hf, hb]; rfl, rfl, fun _ => ⟨rfl, rfl⟩, fun h => by omega, fun h => by omega⟩
  · by_cases h2 : k < p
    · obtain ⟨s, hs, hr⟩ := St.run (f := stk k p) (by omega) d0 (2 * k) (by omega) (stk_straight k p (2 * k) (by omega) (.inr (by omega)) (Nat.le_refl _))
      have c1 : cop (stk k p) (2 * k) = 2 := by unfold cop; rw [stk_at, if_neg (by omega), if_pos (by omega)]
      have e := hs.stops (by omega) (.inl (by rw [c1]; have e1 : popsZ 2 = 1 := rfl; have d1 : depS k (2 * k) = 0 := by { unfold depS; split <;> omega }; rw [e1, d1]; decide))
      have hb := bad_some hs (by omega) (hr.trans e)
      exact ⟨2 * (k : Int), 24, _, by rw [hf, hb]; show (((2 * k : Nat) : Int), (24 : Int)) = _; rw [show ((2 * k : Nat) : Int) = 2 * (k : Int) by omega], rfl, fun h => by omega, fun _ _ => ⟨rfl, rfl⟩, fun _ h => by omega⟩
    · obtain ⟨s, hs, hr⟩ := St.run (f := stk k p) (by omega) d0 (k + p) (by omega) (stk_straight k p (k + p) (Nat.le_refl _) (.inr (by omega)) (by omega))
      have c1 : cop (stk k p) (k + p) = 26 := by unfold cop; rw [stk_at, if_neg (by omega), if_neg (by omega), if_pos rfl]
      have e1 : popsZ 26 = 0 := rfl
      have e2 : pushesZ 26 = 0 := rfl
      have d1 : depS k (k + p) = (k : Int) - p := by unfold depS; split <;> omega
      have e := hs.ends (by omega) (by unfold nextL; rw [c1]; rfl) (by rw [c1, e1, d1]; omega) (by rw [c1, e1, e2, d1]; omega)
      have hff := hr.trans e
      have hb := bad_none hs hff
      refine ⟨0, 0, _, by rw [hf, hb]; rfl, rfl, fun h => by omega, fun _ h => by omega, fun _ _ => ⟨rfl, ?_, ?_⟩⟩
      · unfold depthsZ; rw [hf, hb, if_pos (show (resZ none none).2 = 0 from rfl), hff, hs.dl, hl]
      · unfold depthsZ; rw [hf, hb, if_pos (show (resZ none none).2 = 0 from rfl), hff, hs.d _ (by omega), if_pos (Nat.le_refl _), d1]

end Go.Proofs.Ytjnlgmjcabbaaaa
