/- The flow of code that goes straight on, as plain functions. -/
import Derived.Test.YtjnlgmjcabbaaaaKnown8
namespace Go.Proofs.Ytjnlgmjcabbaaaa
set_option maxRecDepth 100000
open Go.RowKit

/-- The flow when the first t + 1 instructions have been reached one after another. -/
structure St (f : CodeL) (dep : Nat → Int) (t : Nat) (s : Fl) : Prop where
  k : s.K = List.range (t + 1)
  b : ∀ i, s.Bd.getD i false = false
  d : ∀ i, i < f.length → s.D.getD i 0 = if i ≤ t then dep i else -1
  dl : s.D.length = f.length
  bl : s.Bd.length = f.length
theorem St.first {f : CodeL} {dep : Nat → Int} (h0 : 0 < f.length) (hd : dep 0 = 0) : St f dep 0 (reachF f.length (startF f.length) 0 0 0) := by
  have e : reachF f.length (startF f.length) 0 0 0 = ⟨(List.replicate f.length (-1)).set 0 0, List.replicate f.length false, [0]⟩ := by
    unfold reachF
    rw [if_neg (by omega), if_pos (by simp [startF, h0])]
    simp [startF]
  rw [e]
  refine ⟨rfl, fun i => ?_, fun i hi => ?_, by simp, by simp⟩
  · rw [List.getD_eq_getElem?_getD]
    by_cases h : i < f.length <;> simp [h]
  · rw [getD_set_list _ _ _ _ _ (by simpa using hi)]
    by_cases h : i = 0
    · subst h; simp [hd]
    · rw [if_neg (by omega), if_neg (by omega)]; simp [hi]
theorem range_getD (t : Nat) : (List.range (t + 1)).getD t 0 = t := by simp
theorem St.left {f : CodeL} {dep : Nat → Int} {t : Nat} {s : Fl} (h : St f dep t s) (ht : t < f.length) : leftZ f s t = dep t - popsZ (cop f t) := by
  unfold leftZ; rw [h.d t ht, if_pos (Nat.le_refl _)]
theorem St.next {f : CodeL} {dep : Nat → Int} {t : Nat} {s : Fl} (h : St f dep t s) (ht : t + 1 < f.length) (hn : nextL f t = [t + 1]) (hl : 0 ≤ dep t - popsZ (cop f t))
    (hd : dep (t + 1) = dep t - popsZ (cop f t) + pushesZ (cop f t)) (h32 : dep (t + 1) ≤ 32) : St f dep (t + 1) (stepF f s t) := by
  have e1 := h.left (by omega)
  have e2 : depthZ f s t = dep (t + 1) := by unfold depthZ; rw [e1, hd]
  have e3 : fitsB f s t = true := by unfold fitsB; rw [e2, e1, decide_eq_true hl, decide_eq_true h32]; rfl
  have e4 : stepF f s t = ⟨s.D.set (t + 1) (dep (t + 1)), s.Bd, s.K ++ [t + 1]⟩ := by
    unfold stepF
    rw [if_pos e3, hn, e2]
    show reachF f.length s t (t + 1) (dep (t + 1)) = _
    unfold reachF
    rw [if_neg (by omega), if_pos (by rw [h.d _ ht, if_neg (by omega)])]
  rw [e4]
  refine ⟨by show s.K ++ [t + 1] = _; rw [h.k, List.range_succ (n := t + 1)], h.b, fun i hi => ?_, by simpa using h.dl, h.bl⟩
  show (s.D.set (t + 1) (dep (t + 1))).getD i 0 = _
  rw [getD_set_list _ _ _ _ _ (by rw [h.dl]; exact hi), h.d i hi]
  by_cases h1 : t + 1 = i
  · subst h1; rw [if_pos rfl, if_pos (Nat.le_refl _)]
  · rw [if_neg h1]
    by_cases h2 : i ≤ t
    · rw [if_pos h2, if_pos (by omega)]
    · rw [if_neg h2, if_neg (by omega)]
/-- The first t instructions lead straight on. -/
def Straight (f : CodeL) (dep : Nat → Int) (t : Nat) : Prop :=
  ∀ j, j < t → j + 1 < f.length ∧ nextL f j = [j + 1] ∧ 0 ≤ dep j - popsZ (cop f j) ∧ dep (j + 1) = dep j - popsZ (cop f j) + pushesZ (cop f j) ∧ dep (j + 1) ≤ 32
theorem St.run {f : CodeL} {dep : Nat → Int} (h0 : 0 < f.length) (hd : dep 0 = 0) : ∀ t, t < f.length → Straight f dep t → ∃ s, St f dep t s ∧ followF f = runF f (f.length - t) t s
  | 0, _, _ => ⟨_, St.first h0 hd, by rw [Nat.sub_zero]; rfl⟩
  | t + 1, ht, hs => by
    obtain ⟨s, h1, h2⟩ := St.run h0 hd t (by omega) (fun j hj => hs j (by omega))
    obtain ⟨a1, a2, a3, a4, a5⟩ := hs t (by omega)
    refine ⟨stepF f s t, h1.next a1 a2 a3 a4 a5, ?_⟩
    rw [h2, show f.length - t = (f.length - (t + 1)) + 1 from by omega, run_step _ _ _ _ (by rw [h1.k]; simp), h1.k, range_getD]
/-- It ends there. -/
theorem St.ends {f : CodeL} {dep : Nat → Int} {t : Nat} {s : Fl} (h : St f dep t s) (ht : t < f.length) (hn : nextL f t = []) (hl : 0 ≤ dep t - popsZ (cop f t)) (h32 : dep t - popsZ (cop f t) + pushesZ (cop f t) ≤ 32) :
    runF f (f.length - t) t s = s := by
  have e1 := h.left ht
  have e3 : fitsB f s t = true := by unfold fitsB depthZ; rw [e1, decide_eq_true hl, decide_eq_true h32]; rfl
  have e4 : stepF f s t = s := by unfold stepF; rw [if_pos e3, hn]; rfl
  rw [show f.length - t = (f.length - (t + 1)) + 1 from by omega, run_step _ _ _ _ (by rw [h.k]; simp), h.k, range_getD, e4, run_end _ _ _ _ (by rw [h.k]; simp)]
/-- It doesn't fit there. -/
theorem St.stops {f : CodeL} {dep : Nat → Int} {t : Nat} {s : Fl} (h : St f dep t s) (ht : t < f.length) (hno : ¬ (0 ≤ dep t - popsZ (cop f t)) ∨ ¬ (dep t - popsZ (cop f t) + pushesZ (cop f t) ≤ 32)) :
    runF f (f.length - t) t s = { s with Bd := s.Bd.set t true } := by
  have e1 := h.left ht
  have e3 : fitsB f s t = false := by
    unfold fitsB depthZ; rw [e1]
    rcases hno with h1 | h1
    · rw [decide_eq_false h1]; rfl
    · rw [decide_eq_false h1, Bool.and_false]
  have e4 : stepF f s t = { s with Bd := s.Bd.set t true } := by unfold stepF; rw [if_neg (by rw [e3]; decide)]
  rw [show f.length - t = (f.length - (t + 1)) + 1 from by omega, run_step _ _ _ _ (by rw [h.k]; simp), h.k, range_getD, e4, run_end _ _ _ _ (by show ¬ t + 1 < s.K.length; rw [h.k]; simp)]
  rw [h.k]
theorem firstO_all {hz : Nat → Bool} : ∀ (m k : Nat), (∀ j, k ≤ j → j < k + m → hz j = false) → firstO hz k m = none
  | 0, _, _ => rfl
  | m + 1, k, h => by
    unfold firstO
    rw [if_neg (by rw [h k (Nat.le_refl _) (by omega)]; decide)]
    exact firstO_all m (k + 1) (fun j h1 h2 => h j (by omega) (by omega))
theorem firstO_at {hz : Nat → Bool} {t : Nat} (ht : hz t = true) : ∀ (m k : Nat), k ≤ t → t < k + m → (∀ j, k ≤ j → j < t → hz j = false) → firstO hz k m = some t
  | 0, k, h1, h2, _ => by omega
  | m + 1, k, h1, h2, h => by
    unfold firstO
    rcases Nat.eq_or_lt_of_le h1 with rfl | h3
    · rw [if_pos ht]
    · rw [if_neg (by rw [h k (Nat.le_refl _) h3]; decide)]
      exact firstO_at ht m (k + 1) h3 (by omega) (fun j h4 h5 => h j (by omega) h5)
theorem bad_none {f : CodeL} {dep : Nat → Int} {t : Nat} {s : Fl} (h : St f dep t s) (hf : followF f = s) : badO f = none := by
  unfold badO; rw [hf]
  exact firstO_all _ _ (fun j _ _ => h.b j)
theorem bad_some {f : CodeL} {dep : Nat → Int} {t : Nat} {s : Fl} (h : St f dep t s) (ht : t < f.length) (hf : followF f = { s with Bd := s.Bd.set t true }) : badO f = some t := by
  unfold badO; rw [hf]
  have hg : ∀ j, j < f.length → (s.Bd.set t true).getD j false = decide (t = j) := by
    intro j hj
    rw [getD_set_list _ _ _ _ _ (by rw [h.bl]; exact hj), h.b j]
    by_cases e : t = j <;> simp [e]
  refine firstO_at (by show (s.Bd.set t true).getD t false = true; rw [hg t ht]; simp) _ _ (Nat.zero_le _) (by omega) (fun j _ hj => ?_)
  show (s.Bd.set t true).getD j false = false
  rw [hg j (by omega)]; simp; omega

end Go.Proofs.Ytjnlgmjcabbaaaa
