/- What bytes and bits an argument holds: small facts for the laws on stores. -/
import Derived.Test.YtboelofkbhgmfaaKn12
import Derived.Lib.RabinKarpLaws
namespace Go.Proofs.Ytboelofkbhgmfaa
set_option maxRecDepth 100000
open Go.RowKit

theorem quiet_flip {f : FuncId} {args : Array Value} {w : World} {v : Value} (h : Calls Try.prog f args w fun e w' => e = .returned v ∧ w = w') : Calls Try.prog f args w fun e w' => e = .returned v ∧ w' = w :=
  h.mono fun _ _ ⟨he, hw⟩ => ⟨he, hw.symm⟩
/-- One bit of a byte. -/
theorem bit_of (k s : Nat) (hk : k ≤ 65535) : ∃ d b : Nat, (k : Int) / 2 ^ s = (d : Int) ∧ d ≤ 65535 ∧ b = d % 2 ∧ d = k / 2 ^ s ∧ bits BinOp.and IntKind.i64 (d : Int) 1 = (b : Int) := by
  have hd : k / 2 ^ s ≤ k := Nat.div_le_self _ _
  refine ⟨k / 2 ^ s, (k / 2 ^ s) % 2, by simp, by omega, rfl, rfl, ?_⟩
  exact and_one _ (by omega)
theorem mk_two0 (m : Nat) (L0 L1 : List RefX) (x : RefX) : mkB [(m : Int), (m : Int)] [L0, L1] 0 = decide (L0.length < m) ∧ (L0.length < m → mkId [(m : Int), (m : Int)] [L0, L1] 0 = (L0.length : Int) ∧ mkL [(m : Int), (m : Int)] [L0, L1] 0 x = [L0 ++ [x], L1]) ∧ (¬ L0.length < m → mkId [(m : Int), (m : Int)] [L0, L1] 0 = 0 ∧ mkL [(m : Int), (m : Int)] [L0, L1] 0 x = [L0, L1]) := by
  have h0 : mkB [(m : Int), (m : Int)] [L0, L1] 0 = decide (L0.length < m) := by simp [mkB, cntZ, quoZ]
  refine ⟨h0, fun h => ?_, fun h => ?_⟩
  · rw [decide_eq_true h] at h0
    exact ⟨by unfold mkId; rw [h0]; simp [cntZ], by unfold mkL; rw [h0]; simp⟩
  · rw [decide_eq_false h] at h0
    exact ⟨mkId_no h0, mkL_no h0 x⟩
theorem mk_two1 (m : Nat) (L0 L1 : List RefX) (x : RefX) : mkB [(m : Int), (m : Int)] [L0, L1] 1 = decide (L1.length < m) ∧ (L1.length < m → mkId [(m : Int), (m : Int)] [L0, L1] 1 = 65536 + (L1.length : Int) ∧ mkL [(m : Int), (m : Int)] [L0, L1] 1 x = [L0, L1 ++ [x]]) ∧ (¬ L1.length < m → mkId [(m : Int), (m : Int)] [L0, L1] 1 = 0 ∧ mkL [(m : Int), (m : Int)] [L0, L1] 1 x = [L0, L1]) := by
  have h0 : mkB [(m : Int), (m : Int)] [L0, L1] 1 = decide (L1.length < m) := by simp [mkB, cntZ, quoZ]
  refine ⟨h0, fun h => ?_, fun h => ?_⟩
  · rw [decide_eq_true h] at h0
    exact ⟨by unfold mkId; rw [h0]; simp [cntZ], by unfold mkL; rw [h0]; simp⟩
  · rw [decide_eq_false h] at h0
    exact ⟨mkId_no h0, mkL_no h0 x⟩
/-- What has just been made is there. -/
theorem got_new (Ls : List (List RefX)) (b : Nat) (hb : b < Ls.length) (hn : Ls.length ≤ 16) (hl : Ls[b].length < 65536) (x : RefX) :
    isIn (Ls.set b (Ls[b] ++ [x])) ((b : Int) * 65536 + (Ls[b].length : Nat)) = true ∧ itmZ (Ls.set b (Ls[b] ++ [x])) ((b : Int) * 65536 + (Ls[b].length : Nat)) zR = x := by
  have h0 : (0 : Int) ≤ (b : Int) * 65536 + (Ls[b].length : Nat) := by omega
  have e1 : labelZ ((b : Int) * 65536 + (Ls[b].length : Nat)) = (b : Int) := by rw [labelZ_pos h0]; omega
  have e2 : numberZ ((b : Int) * 65536 + (Ls[b].length : Nat)) = (Ls[b].length : Nat) := by rw [numberZ_pos h0]; omega
  have hv : validB ((b : Int) * 65536 + (Ls[b].length : Nat)) (Ls.set b (Ls[b] ++ [x])).length = true := by
    unfold validB; rw [e1, List.length_set, decide_eq_true h0, decide_eq_true (by omega)]; rfl
  have hi : isIn (Ls.set b (Ls[b] ++ [x])) ((b : Int) * 65536 + (Ls[b].length : Nat)) = true := by
    unfold isIn
    rw [hv, e1, e2, cntZ_in (by simpa using hb)]
    simp
    omega
  refine ⟨hi, ?_⟩
  unfold itmZ
  rw [if_pos hi, e1, e2]
  simp [hb]
theorem mk_three (Ls : List (List RefX)) (h3 : Ls.length = 3) {b : Nat} (hb : b < Ls.length) (hl : Ls[b].length ≤ 40) (x : RefX) : mkB [50, 50, 50] Ls (b : Int) = true ∧ mkId [50, 50, 50] Ls (b : Int) = (b : Int) * 65536 + (Ls[b].length : Nat) ∧ mkL [50, 50, 50] Ls (b : Int) x = Ls.set b (Ls[b] ++ [x]) := by
  have h0 : mkB [50, 50, 50] Ls (b : Int) = true := by
    rw [mkB_in hb (by rw [h3]; rfl)]
    have : ([50, 50, 50] : List Int)[b]'(by simp; omega) = 50 := by
      rcases (by omega : b = 0 ∨ b = 1 ∨ b = 2) with rfl | rfl | rfl <;> rfl
    rw [this]
    simp; omega
  exact ⟨h0, mkId_in h0 hb, mkL_in h0 hb x⟩
/-- The number behind the last one of label 0 is not there. -/
theorem not_in0 (Ls : List (List RefX)) (hb : 0 < Ls.length) (hn : Ls.length ≤ 16) (hl : Ls[0].length < 65536) : isIn Ls (Ls[0].length : Nat) = false := by
  have h0 : (0 : Int) ≤ (Ls[0].length : Nat) := by omega
  have e1 : labelZ (Ls[0].length : Nat) = ((0 : Nat) : Int) := by rw [labelZ_pos h0]; omega
  have e2 : numberZ (Ls[0].length : Nat) = (Ls[0].length : Nat) := by rw [numberZ_pos h0]; omega
  unfold isIn
  rw [e1, e2, cntZ_in hb, decide_eq_false (by omega), Bool.and_false]
end Go.Proofs.Ytboelofkbhgmfaa
