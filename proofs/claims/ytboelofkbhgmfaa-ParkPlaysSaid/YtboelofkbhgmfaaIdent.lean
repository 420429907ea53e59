/- Package ident and its reference, for any numbers. -/
import Derived.Test.YtboelofkbhgmfaaRows
import Derived.WalkKit
import Derived.WalkLawsBesides
import Derived.Lib.Hide
import Derived.Outline
namespace Go.Proofs.Ytboelofkbhgmfaa
set_option maxRecDepth 100000
open Go.RowKit

def ofB (l n : Int) : Bool := decide (0 ≤ l) && decide (l < 16) && decide (0 ≤ n) && decide (n < 65536)
def ofZ (l n : Int) : Int := if ofB l n then l * 65536 + n else 0
def labelZ (id : Int) : Int := if id < 0 then -1 else id / 65536
def numberZ (id : Int) : Int := if id < 0 then -1 else id % 65536
def validB (id labels : Int) : Bool := decide (0 ≤ id) && decide (labelZ id < min labels 16)

theorem ofB_yes {l n : Int} (h : 0 ≤ l ∧ l < 16 ∧ 0 ≤ n ∧ n < 65536) : ofB l n = true := by unfold ofB; simp [h]
theorem ofB_no {l n : Int} (h : ¬ (0 ≤ l ∧ l < 16 ∧ 0 ≤ n ∧ n < 65536)) : ofB l n = false := by
  unfold ofB; rw [Bool.eq_false_iff]; intro h2; simp at h2; omega

set_option maxRecDepth 100000 in
set_option maxHeartbeats 2000000 in
theorem of_any (l n : Int) (w : World) : Calls Try.prog 74 #[.int .i64 l, .int .i64 n] w fun e w' => e = .returned (.tuple #[.int .i32 (ofZ l n), .bool (ofB l n)]) ∧ w' = w := by
  unfold ofZ
  rcases (by omega : l < 0 ∨ (0 ≤ l ∧ 16 ≤ l) ∨ (0 ≤ l ∧ l < 16 ∧ n < 0) ∨ (0 ≤ l ∧ l < 16 ∧ 0 ≤ n ∧ 65536 ≤ n) ∨ (0 ≤ l ∧ l < 16 ∧ 0 ≤ n ∧ n < 65536)) with h1 | ⟨h1, h2⟩ | ⟨h1, h2, h3⟩ | ⟨h1, h2, h3, h4⟩ | ⟨h1, h2, h3, h4⟩
  · rw [ofB_no (by omega)]
    go_enter Try.func74, Try.ntmps74
    go_wp2_with fail
    go_ret2
    exact ⟨rfl, rfl⟩
  · rw [ofB_no (by omega)]
    go_enter Try.func74, Try.ntmps74
    go_wp2_with fail
    go_ret2
    exact ⟨rfl, rfl⟩
  · rw [ofB_no (by omega)]
    go_enter Try.func74, Try.ntmps74
    go_wp2_with fail
    go_ret2
    exact ⟨rfl, rfl⟩
  · rw [ofB_no (by omega)]
    go_enter Try.func74, Try.ntmps74
    go_wp2_with fail
    go_ret2
    exact ⟨rfl, rfl⟩
  · rw [ofB_yes ⟨h1, h2, h3, h4⟩, if_pos rfl]
    go_enter Try.func74, Try.ntmps74
    go_wp2_with fail
    go_ret2
    exact ⟨rfl, rfl⟩

set_option maxRecDepth 100000 in
set_option maxHeartbeats 2000000 in
theorem refOf_any (l n : Int) (w : World) : Calls Try.prog 54 #[.int .i64 l, .int .i64 n] w fun e w' => e = .returned (.tuple #[.int .i32 (ofZ l n), .bool (ofB l n)]) ∧ w' = w := by
  unfold ofZ
  rcases (by omega : l < 0 ∨ (0 ≤ l ∧ 16 ≤ l) ∨ (0 ≤ l ∧ l < 16 ∧ n < 0) ∨ (0 ≤ l ∧ l < 16 ∧ 0 ≤ n ∧ 65536 ≤ n) ∨ (0 ≤ l ∧ l < 16 ∧ 0 ≤ n ∧ n < 65536)) with h1 | ⟨h1, h2⟩ | ⟨h1, h2, h3⟩ | ⟨h1, h2, h3, h4⟩ | ⟨h1, h2, h3, h4⟩
  · rw [ofB_no (by omega)]
    go_enter Try.func54, Try.ntmps54
    go_wp2_with fail
    go_ret2
    exact ⟨rfl, rfl⟩
  · rw [ofB_no (by omega)]
    go_enter Try.func54, Try.ntmps54
    go_wp2_with fail
    go_ret2
    exact ⟨rfl, rfl⟩
  · rw [ofB_no (by omega)]
    go_enter Try.func54, Try.ntmps54
    go_wp2_with fail
    go_ret2
    exact ⟨rfl, rfl⟩
  · rw [ofB_no (by omega)]
    go_enter Try.func54, Try.ntmps54
    go_wp2_with fail
    go_ret2
    exact ⟨rfl, rfl⟩
  · rw [ofB_yes ⟨h1, h2, h3, h4⟩, if_pos rfl]
    go_enter Try.func54, Try.ntmps54
    go_wp2_with fail
    go_ret2
    exact ⟨rfl, rfl⟩

theorem labelZ_neg {id : Int} (h : id < 0) : labelZ id = -1 := by unfold labelZ; rw [if_pos h]
theorem labelZ_pos {id : Int} (h : 0 ≤ id) : labelZ id = id / 65536 := by unfold labelZ; rw [if_neg (by omega)]
theorem numberZ_neg {id : Int} (h : id < 0) : numberZ id = -1 := by unfold numberZ; rw [if_pos h]
theorem numberZ_pos {id : Int} (h : 0 ≤ id) : numberZ id = id % 65536 := by unfold numberZ; rw [if_neg (by omega)]

set_option maxHeartbeats 2000000 in
theorem parts_any (id : Int) (w : World) (hid : -2147483648 ≤ id ∧ id ≤ 2147483647) : Calls Try.prog 85 #[.int .i32 id] w fun e w' => e = .returned (.tuple #[.int .i64 (labelZ id), .int .i64 (numberZ id)]) ∧ w' = w := by
  rcases (by omega : id < 0 ∨ 0 ≤ id) with h | h
  · rw [labelZ_neg h, numberZ_neg h]
    go_enter Try.func85, Try.ntmps85
    go_wp2_with fail
    go_ret2
    exact ⟨rfl, rfl⟩
  · rw [labelZ_pos h, numberZ_pos h]
    go_enter Try.func85, Try.ntmps85
    go_wp2_with fail
    go_ret2
    exact ⟨rfl, rfl⟩

set_option maxHeartbeats 2000000 in
theorem label_any (id : Int) (w : World) (hid : -2147483648 ≤ id ∧ id ≤ 2147483647) : Calls Try.prog 77 #[.int .i32 id] w fun e w' => e = .returned (.int .i64 (labelZ id)) ∧ w' = w := by
  go_enter Try.func77, Try.ntmps77
  go_wp2_with fail
  refine (parts_any id w hid).mono ?_
  rintro e w' ⟨rfl, rfl⟩
  go_wp2_with fail
  go_ret
  exact ⟨rfl, rfl⟩
set_option maxHeartbeats 2000000 in
theorem number_any (id : Int) (w : World) (hid : -2147483648 ≤ id ∧ id ≤ 2147483647) : Calls Try.prog 78 #[.int .i32 id] w fun e w' => e = .returned (.int .i64 (numberZ id)) ∧ w' = w := by
  go_enter Try.func78, Try.ntmps78
  go_wp2_with fail
  refine (parts_any id w hid).mono ?_
  rintro e w' ⟨rfl, rfl⟩
  go_wp2_with fail
  go_ret
  exact ⟨rfl, rfl⟩
set_option maxHeartbeats 2000000 in
theorem refLabel_any (id : Int) (w : World) (hid : -2147483648 ≤ id ∧ id ≤ 2147483647) : Calls Try.prog 57 #[.int .i32 id] w fun e w' => e = .returned (.int .i64 (labelZ id)) ∧ w' = w := by
  rcases (by omega : id < 0 ∨ 0 ≤ id) with h | h
  · rw [labelZ_neg h]
    go_enter Try.func57, Try.ntmps57
    go_wp2_with fail
    go_ret
    exact ⟨rfl, rfl⟩
  · rw [labelZ_pos h]
    go_enter Try.func57, Try.ntmps57
    go_wp2_with fail
    go_ret
    exact ⟨rfl, rfl⟩
set_option maxHeartbeats 2000000 in
theorem refNumber_any (id : Int) (w : World) (hid : -2147483648 ≤ id ∧ id ≤ 2147483647) : Calls Try.prog 58 #[.int .i32 id] w fun e w' => e = .returned (.int .i64 (numberZ id)) ∧ w' = w := by
  rcases (by omega : id < 0 ∨ 0 ≤ id) with h | h
  · rw [numberZ_neg h]
    go_enter Try.func58, Try.ntmps58
    go_wp2_with fail
    go_ret
    exact ⟨rfl, rfl⟩
  · rw [numberZ_pos h]
    go_enter Try.func58, Try.ntmps58
    go_wp2_with fail
    go_ret
    exact ⟨rfl, rfl⟩
set_option maxHeartbeats 2000000 in
theorem valid_any (id labels : Int) (w : World) (hid : -2147483648 ≤ id ∧ id ≤ 2147483647) : Calls Try.prog 76 #[.int .i32 id, .int .i64 labels] w fun e w' => e = .returned (.bool (validB id labels)) ∧ w' = w := by
  unfold validB
  rcases (by omega : id < 0 ∨ 0 ≤ id) with h | h
  · rw [decide_eq_false (by omega), Bool.false_and]
    go_enter Try.func76, Try.ntmps76
    go_wp2_with fail
    go_ret
    exact ⟨rfl, rfl⟩
  · rw [decide_eq_true h, Bool.true_and]
    rcases (by omega : labels ≤ 16 ∨ 16 < labels) with h2 | h2
    · rw [show min labels 16 = labels from by omega]
      go_enter Try.func76, Try.ntmps76
      go_wp2_with fail
      refine (label_any id w hid).mono ?_
      rintro e w' ⟨rfl, rfl⟩
      go_wp2_with fail
      go_ret
      exact ⟨rfl, rfl⟩
    · rw [show min labels 16 = 16 from by omega]
      go_enter Try.func76, Try.ntmps76
      go_wp2_with fail
      refine (label_any id w hid).mono ?_
      rintro e w' ⟨rfl, rfl⟩
      go_wp2_with fail
      go_ret
      exact ⟨rfl, rfl⟩
set_option maxHeartbeats 2000000 in
theorem refValid_any (id labels : Int) (w : World) (hid : -2147483648 ≤ id ∧ id ≤ 2147483647) : Calls Try.prog 68 #[.int .i32 id, .int .i64 labels] w fun e w' => e = .returned (.bool (validB id labels)) ∧ w' = w := by
  unfold validB
  rcases (by omega : id < 0 ∨ 0 ≤ id) with h | h
  · rw [decide_eq_false (by omega), Bool.false_and]
    go_enter Try.func68, Try.ntmps68
    go_wp2_with fail
    go_ret
    exact ⟨rfl, rfl⟩
  · rw [decide_eq_true h, Bool.true_and]
    rcases (by omega : labels ≤ 16 ∨ 16 < labels) with h2 | h2
    · rw [show min labels 16 = labels from by omega]
      go_enter Try.func68, Try.ntmps68
      go_wp2_with fail
      refine (refLabel_any id w hid).mono ?_
      rintro e w' ⟨rfl, rfl⟩
      go_wp2_with fail
      go_ret
      exact ⟨rfl, rfl⟩
    · rw [show min labels 16 = 16 from by omega]
      go_enter Try.func68, Try.ntmps68
      go_wp2_with fail
      refine (refLabel_any id w hid).mono ?_
      rintro e w' ⟨rfl, rfl⟩
      go_wp2_with fail
      go_ret
      exact ⟨rfl, rfl⟩


end Go.Proofs.Ytboelofkbhgmfaa
