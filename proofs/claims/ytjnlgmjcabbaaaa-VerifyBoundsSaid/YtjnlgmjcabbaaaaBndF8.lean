/- Which of four instructions may run, by the third one's argument; as plain functions. -/
import Derived.Test.YtjnlgmjcabbaaaaKnown8
namespace Go.Proofs.Ytjnlgmjcabbaaaa
set_option maxRecDepth 100000
open Go.RowKit

def bf (o n : Int) : CodeL := [(1, 0), (1, 0), (o, n), (26, 0)]
theorem bf_invalid (o : Int) (n : Nat) (fs ls gs mo : Int) (hr : rightB o n = true) (hb : boundZ 4 fs ls gs (argZ o) = mo) : invalidO (bf o n) fs ls gs = if mo ≤ n then some 2 else none := by
  have b0 : badI (bf o n) fs ls gs 0 = false := rfl
  have b1 : badI (bf o n) fs ls gs 1 = false := rfl
  have b2 : badI (bf o n) fs ls gs 2 = decide (mo ≤ n) := by
    show (!(rightB o n) || decide (boundZ 4 fs ls gs (argZ o) ≤ n)) = _
    rw [hr, hb]; rfl
  have b3 : badI (bf o n) fs ls gs 3 = false := rfl
  show firstO (badI (bf o n) fs ls gs) 0 4 = _
  simp only [firstO, Nat.reduceAdd, b0, b1, b2, b3]
  simp
theorem bf_func (o : Int) (n : Nat) (fs ls gs mo : Int) (hr : rightB o n = true) (hb : boundZ 4 fs ls gs (argZ o) = mo) : funcZ (bf o n) fs ls gs = resZ (if mo ≤ n then some 2 else none) (badO (bf o n)) := by
  unfold funcZ
  rw [if_neg (by show ¬ 512 < 4; omega), if_neg (by show ¬ 4 = 0; omega), bf_invalid o n fs ls gs mo hr hb]
theorem right_pos {o : Int} (n : Nat) (hk : knownB o = true) (hz : argZ o ≠ 0) : rightB o n = true := by
  unfold rightB; rw [hk, if_neg hz, decide_eq_true (by omega)]; rfl

theorem bf_good12 (n : Int) : badO (bf 12 n) = none := by kernel_rfl
theorem bf_good15 (n : Int) : badO (bf 15 n) = none := by kernel_rfl
theorem bf_good20 (n : Int) : badO (bf 20 n) = none := by kernel_rfl
theorem bf_good24 (n : Int) : badO (bf 24 n) = none := by kernel_rfl
theorem bf_jump (n : Nat) (hn : n < 4) : (n < 2 → ∃ k, badO (bf 10 n) = some k) ∧ (2 ≤ n → badO (bf 10 n) = none) := by
  rcases (by omega : n = 0 ∨ n = 1 ∨ n = 2 ∨ n = 3) with rfl | rfl | rfl | rfl
  · exact ⟨fun _ => ⟨_, rfl⟩, fun h => by omega⟩
  · exact ⟨fun _ => ⟨_, rfl⟩, fun h => by omega⟩
  · exact ⟨fun h => by omega, fun _ => rfl⟩
  · exact ⟨fun h => by omega, fun _ => rfl⟩

def opB (i : Nat) : Int := if i = 0 then 10 else if i = 1 then 12 else if i = 2 then 15 else if i = 3 then 20 else 24
def moB (fs ls gs : Int) (i : Nat) : Int := if i = 0 then 4 else if i = 1 then 4 else if i = 2 then ls else if i = 3 then fs else gs
theorem bf_all (i : Nat) (hi : i < 5) (n : Nat) (fs ls gs : Int) :
    ∃ r1 r2, funcZ (bf (opB i) n) fs ls gs = (r1, r2) ∧ (moB fs ls gs i ≤ n → r1 = 2 ∧ r2 = 24) ∧ ((n : Int) < moB fs ls gs i → (i = 0 ∧ n < 2 → r2 = 24) ∧ (¬ (i = 0 ∧ n < 2) → r2 = 0)) := by
  have h : funcZ (bf (opB i) n) fs ls gs = resZ (if moB fs ls gs i ≤ n then some 2 else none) (badO (bf (opB i) n)) := by
    refine bf_func _ _ _ _ _ _ (right_pos n ?_ ?_) ?_ <;> rcases (by omega : i = 0 ∨ i = 1 ∨ i = 2 ∨ i = 3 ∨ i = 4) with rfl | rfl | rfl | rfl | rfl <;> first | rfl | decide +kernel
  by_cases hm : moB fs ls gs i ≤ n
  · refine ⟨2, 24, by rw [h, if_pos hm]; rfl, fun _ => ⟨rfl, rfl⟩, fun h2 => by omega⟩
  · rw [if_neg hm] at h
    rcases (by omega : i = 0 ∨ i = 1 ∨ i = 2 ∨ i = 3 ∨ i = 4) with rfl | rfl | rfl | rfl | rfl
    · have hn4 : n < 4 := by have : moB fs ls gs 0 = 4 := rfl; omega
      obtain ⟨j1, j2⟩ := bf_jump n hn4
      by_cases h2 : n < 2
      · obtain ⟨k, hk⟩ := j1 h2
        refine ⟨k, 24, by rw [h]; show resZ none (badO (bf 10 n)) = _; rw [hk]; rfl, fun h3 => absurd h3 hm, fun _ => ⟨fun _ => rfl, fun h4 => absurd ⟨rfl, h2⟩ h4⟩⟩
      · refine ⟨0, 0, by rw [h]; show resZ none (badO (bf 10 n)) = _; rw [j2 (by omega)]; rfl, fun h3 => absurd h3 hm, fun _ => ⟨fun h4 => absurd h4.2 h2, fun _ => rfl⟩⟩
    · refine ⟨0, 0, by rw [h]; show resZ none (badO (bf 12 n)) = _; rw [bf_good12]; rfl, fun h3 => absurd h3 hm, fun _ => ⟨fun h4 => absurd h4.1 (by decide), fun _ => rfl⟩⟩
    · refine ⟨0, 0, by rw [h]; show resZ none (badO (bf 15 n)) = _; rw [bf_good15]; rfl, fun h3 => absurd h3 hm, fun _ => ⟨fun h4 => absurd h4.1 (by decide), fun _ => rfl⟩⟩
    · refine ⟨0, 0, by rw [h]; show resZ none (badO (bf 20 n)) = _; rw [bf_good20]; rfl, fun h3 => absurd h3 hm, fun _ => ⟨fun h4 => absurd h4.1 (by decide), fun _ => rfl⟩⟩
    · refine ⟨0, 0, by rw [h]; show resZ none (badO (bf 24 n)) = _; rw [bf_good24]; rfl, fun h3 => absurd h3 hm, fun _ => ⟨fun h4 => absurd h4.1 (by decide), fun _ => rfl⟩⟩

end Go.Proofs.Ytjnlgmjcabbaaaa
