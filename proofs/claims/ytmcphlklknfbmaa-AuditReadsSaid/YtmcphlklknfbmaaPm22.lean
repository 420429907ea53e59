/- Law 22: what is so of the records that some makes, and of the ones that went to some labels. -/
import Derived.Test.YtmcphlklknfbmaaSo22
namespace Go.Proofs.Ytmcphlklknfbmaa
set_option maxRecDepth 100000
open Go.RowKit

/-- Records that some can make, and the last one's round. -/
inductive SmI : List RecX → Int → Prop
  | nil : SmI [] 0
  | snoc {L : List RecX} {r r' : Int} (x : RecX) : SmI L r → 0 ≤ x.tt → x.tt < 4 → x.sq = (cntT L x.tt : Int) → x.rd = r' → r ≤ r' → SmI (L ++ [x]) r'
theorem smI_fold : ∀ (P : List (List Int)) (q : List RecX × Int), SmI q.1 q.2 → SmI (P.foldl smStep q).1 (P.foldl smStep q).2
  | [], _, h => h
  | r :: P, q, h => by
    rw [List.foldl_cons]
    exact smI_fold P _ (SmI.snoc _ h (Int.emod_nonneg _ (by decide)) (Int.emod_lt_of_pos _ (by decide)) rfl rfl (by show q.2 ≤ q.2 + r.getD 0 0 % 3; omega))
theorem smI_of (P : List (List Int)) : SmI (smL P).1 (smL P).2 := smI_fold P _ SmI.nil
theorem one_in (k t : Int) : [k].contains t = (t == k) := by simp; rfl
theorem of_cnt (L : List RecX) (k : Int) : (ofL [k] L).length = cntT L k := by
  unfold ofL cntT
  congr 1
  exact List.filter_congr fun x _ => one_in k x.tt
/-- The records of one label. -/
theorem of_one {L : List RecX} {r : Int} (h : SmI L r) (k : Int) : ∀ (i : Nat) (x : RecX), (ofL [k] L)[i]? = some x → x.tt = k ∧ x.sq = (i : Int) ∧ x.rd ≤ r ∧ ∀ (y : RecX), 0 < i → (ofL [k] L)[i - 1]? = some y → y.rd ≤ x.rd := by
  induction h with
  | nil => intro i x hx; simp [ofL] at hx
  | @snoc L r r' z _ _ _ hq hr hrr ih =>
    intro i x hx
    by_cases hz : z.tt = k
    · rw [ofL_yes (by rw [one_in, hz]; exact beq_self_eq_true k)] at hx ⊢
      by_cases hi : i < (ofL [k] L).length
      · rw [List.getElem?_append_left hi] at hx
        obtain ⟨h1, h2, h3, h4⟩ := ih i x hx
        refine ⟨h1, h2, by omega, fun y hp hy => ?_⟩
        rw [List.getElem?_append_left (by omega)] at hy
        exact h4 y hp hy
      · have hi2 : i = (ofL [k] L).length := by
          have := (List.getElem?_eq_some_iff.1 hx).1
          simp at this; omega
        subst hi2
        rw [List.getElem?_append_right (Nat.le_refl _)] at hx
        simp at hx
        subst hx
        refine ⟨hz, by rw [hq, hz, of_cnt], by omega, fun y hp hy => ?_⟩
        rw [List.getElem?_append_left (by omega)] at hy
        have := (ih _ y hy).2.2.1
        omega
    · rw [ofL_no (by rw [one_in]; simpa using hz)] at hx ⊢
      obtain ⟨h1, h2, h3, h4⟩ := ih i x hx
      exact ⟨h1, h2, by omega, h4⟩
theorem of_four {L : List RecX} {r : Int} (h : SmI L r) : (ofL [0] L).length + (ofL [1] L).length + (ofL [2] L).length + (ofL [3] L).length = L.length := by
  rw [of_cnt, of_cnt, of_cnt, of_cnt]
  induction h with
  | nil => rfl
  | @snoc L r r' z _ h0 h4 _ _ _ ih =>
    have e0 := cntT_snoc L z 0
    have e1 := cntT_snoc L z 1
    have e2 := cntT_snoc L z 2
    have e3 := cntT_snoc L z 3
    rw [List.length_append]
    rcases (by omega : z.tt = 0 ∨ z.tt = 1 ∨ z.tt = 2 ∨ z.tt = 3) with e | e | e | e <;> rw [e] at e0 e1 e2 e3 <;> simp at e0 e1 e2 e3 ⊢ <;> omega
theorem of_all {L : List RecX} {r : Int} (h : SmI L r) : ofL [0, 1, 2, 3] L = L := by
  induction h with
  | nil => rfl
  | @snoc L r r' z _ h0 h4 _ _ _ ih =>
    rw [ofL_yes ?_, ih]
    rcases (by omega : z.tt = 0 ∨ z.tt = 1 ∨ z.tt = 2 ∨ z.tt = 3) with e | e | e | e <;> rw [e] <;> rfl
theorem of_none (L : List RecX) : ofL [] L = [] := by unfold ofL; simp
theorem of_swap (a b : Int) (L : List RecX) : ofL [b, a, a] L = ofL [a, b] L := by
  unfold ofL
  refine List.filter_congr fun x _ => ?_
  simp only [List.contains_cons, List.contains_nil, Bool.or_false]
  cases (x.tt == a) <;> cases (x.tt == b) <;> rfl
/-- Bounds of the values. -/
theorem smI_len {L : List RecX} {r : Int} (h : SmI L r) : 0 ≤ r := by
  induction h with
  | nil => exact Int.le_refl 0
  | snoc _ _ _ _ _ _ _ ih => omega

end Go.Proofs.Ytmcphlklknfbmaa
