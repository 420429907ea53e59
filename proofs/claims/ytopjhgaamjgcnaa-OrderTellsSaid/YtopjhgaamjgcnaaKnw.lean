/- The walk of known. -/
import Derived.Test.YtopjhgaamjgcnaaTbl
import Derived.Test.YtopjhgaamjgcnaaProps2
namespace Go.Proofs.Ytopjhgaamjgcnaa
open Go.RowKit

theorem kn1 : leastT (tabOf 4 poZ) [1, 3] = some 1 := by decide +kernel
theorem kn2 : greatestT (tabOf 4 poZ) [0, 1] = some 1 := by decide +kernel
theorem kn3 : leastT (tabOf 4 poZ) [1, 2] = none := by decide +kernel
theorem kn4 : sqB (tabOf 4 poZ) = true := by decide +kernel
theorem kn5 : reflB (tabOf 4 poZ) = true := by decide +kernel
theorem kn6 : antiB (tabOf 4 poZ) = true := by decide +kernel
theorem kn7 : transB (tabOf 4 poZ) = true := by decide +kernel
theorem kn8 : (upperT (tabOf 4 poZ) 1 2).length = 1 := by decide +kernel
theorem kn9 : (lowerT (tabOf 4 poZ) 1 2).length = 1 := by decide +kernel

theorem IntsV.lit (w : World) (a b : Int) : IntsV (w.alloc (.cells #[.int .i64 a, .int .i64 b] 3)) (w.alloc (.cells #[.int .i64 a, .int .i64 b] 3)).heap.size (.slice (some ⟨w.heap.size, 0, none⟩) 2 2) [a, b] :=
  ⟨_, 2, rfl, (lies_new w (i64s [a, b]) 3).more (by simp)⟩
theorem TabV.later {w w' : World} {v : Value} {T : List (List Bool)} (h : TabV w w.heap.size v T) (hb : Below w.heap.size w w') : TabV w' w'.heap.size v T := (h.below hb).more hb.size
theorem IntsV.later {w w' : World} {v : Value} {l : List Int} (h : IntsV w w.heap.size v l) (hb : Below w.heap.size w w') : IntsV w' w'.heap.size v l := (h.below hb).more hb.size
theorem nextB {w w1 w2 : World} (h : Below w.heap.size w w1) (k : Below w1.heap.size w1 w2) : Below w.heap.size w w2 := h.trans (k.mono h.size)

set_option maxHeartbeats 4000000 in
theorem known_any (w : World) : Calls Try.prog 6 #[] w fun e w' => e = .returned (.bool true) ∧ Below w.heap.size w w' := by
  go_enter Try.func6, Try.ntmps6
  go_wp2_with fail
  refine (pow_any w).mono ?_
  rintro e w1 ⟨v, G, C, rfl, hg, hb1⟩
  have HT := Lib.hid hg.tab; clear hg
  have B1 := Lib.hid hb1; clear hb1
  go_wp2_with fail
  have B2 := Lib.hid (below_alloc w1 (.cells #[.int .i64 1, .int .i64 3] 3))
  refine (least_any _ (HT.out.later B2.out) (IntsV.lit w1 1 3) (by simp)).mono ?_
  rw [kn1]
  rintro e w2 ⟨rfl, hb2⟩
  have B3 := Lib.hid (nextB B2.out hb2); clear hb2
  unfold ansZ
  go_wp2_with fail
  have B4 := Lib.hid (nextB B3.out (below_alloc w2 (.cells #[.int .i64 0, .int .i64 1] 3)))
  refine (greatest_any _ (HT.out.later B4.out) (IntsV.lit w2 0 1) (by simp)).mono ?_
  rw [kn2]
  rintro e w3 ⟨rfl, hb3⟩
  have B5 := Lib.hid (nextB B4.out hb3); clear hb3
  unfold ansZ
  go_wp2_with fail
  have B6 := Lib.hid (nextB B5.out (below_alloc w3 (.cells #[.int .i64 1, .int .i64 2] 3)))
  refine (least_any _ (HT.out.later B6.out) (IntsV.lit w3 1 2) (by simp)).mono ?_
  rw [kn3]
  rintro e w4 ⟨rfl, hb4⟩
  have B7 := Lib.hid (nextB B6.out hb4); clear hb4
  unfold ansZ
  have HT4 := Lib.hid (HT.out.later B7.out)
  have q1 := sq_any w4 HT4.out
  have q2 := refl_any w4 HT4.out
  have q3 := anti_any w4 HT4.out
  have q4 := trans_any w4 HT4.out
  rw [kn4] at q1
  rw [kn5] at q2
  rw [kn6] at q3
  rw [kn7] at q4
  have Q1 := Lib.hid q1; clear q1
  have Q2 := Lib.hid q2; clear q2
  have Q3 := Lib.hid q3; clear q3
  have Q4 := Lib.hid q4; clear q4
  go_wp2_with fail
  refine Q1.out.mono ?_
  rintro e w' ⟨rfl, rfl⟩
  go_wp2_with fail
  refine Q2.out.mono ?_
  rintro e w' ⟨rfl, rfl⟩
  go_wp2_with fail
  refine Q3.out.mono ?_
  rintro e w' ⟨rfl, rfl⟩
  go_wp2_with fail
  refine Q4.out.mono ?_
  rintro e w' ⟨rfl, rfl⟩
  go_wp2_with fail
  refine (upper_any _ HT4.out).mono ?_
  rintro e w5 ⟨v5, rfl, ⟨A5, c5, rfl, _⟩, hb5⟩
  rw [kn8]
  have HT5 := Lib.hid (HT4.out.later hb5)
  have B8 := Lib.hid (nextB B7.out hb5); clear hb5
  go_wp2_with fail
  refine (lower_any _ HT5.out).mono ?_
  rintro e w6 ⟨v6, rfl, ⟨A6, c6, rfl, _⟩, hb6⟩
  rw [kn9]
  have B9 := Lib.hid (nextB B8.out hb6); clear hb6
  have q9 := sq_any (B := 0) (v := .slice none 0 0) (T := []) w6 ⟨none, 0, [], rfl, rfl, Lies.nil, fun r hr => by cases hr⟩
  have Q9 := Lib.hid (show Calls Try.prog 9 #[.slice none 0 0] w6 fun e w' => e = .returned (.bool false) ∧ w6 = w' from q9); clear q9
  go_wp2_with fail
  refine Q9.out.mono ?_
  rintro e w' ⟨rfl, rfl⟩
  go_wp2_with fail
  go_ret
  exact ⟨rfl, nextB B1.out B9.out⟩

end Go.Proofs.Ytopjhgaamjgcnaa
