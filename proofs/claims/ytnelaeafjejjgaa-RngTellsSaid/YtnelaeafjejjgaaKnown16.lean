/- The walk of known (law 16). -/
import Derived.Test.YtnelaeafjejjgaaRng16
namespace Go.Proofs.Ytnelaeafjejjgaa
set_option maxRecDepth 100000
open Go.RowKit

theorem step_one (w : World) : Calls Try.prog 25 #[.int .u64 1] w fun e w' => e = .returned (.int .u64 1082269761) ∧ w = w' := step16_any 1 w (by decide)
theorem refStep_one (w : World) : Calls Try.prog 22 #[.int .u64 1] w fun e w' => e = .returned (.int .u64 1082269761) ∧ w = w' := refStep16_any 1 w (by decide)

set_option maxRecDepth 100000 in
set_option maxHeartbeats 4000000 in
theorem known16_any (w : World) : Calls Try.prog 20 #[] w fun e w' => e = .returned (.bool true) ∧ Below w.heap.size w w' := by
  have E1 := Lib.hid (show (stepN 1) < 18446744073709551616 from by decide)
  obtain ⟨s1, h1⟩ : ∃ s, stepN 1 = s := ⟨_, rfl⟩
  obtain ⟨s2, h2⟩ : ∃ s, stepN s1 = s := ⟨_, rfl⟩
  have N1 := Lib.hid (fun g w (h : RngB w g 1) => h1 ▸ next16_any g 1 w h (by decide))
  have N2 := Lib.hid (fun g w (h : RngB w g s1) => h2 ▸ next16_any g s1 w h (by rw [← h1]; exact E1.out))
  have B0 := Lib.hid (fun g w (h : RngB w g s1) => below16_any g s1 0 w h (by rw [← h1]; exact E1.out) (by decide))
  have e1 : ((s1 : Int) == s1) = true := beq_self_eq_true _
  have e2 : ((s2 : Int) == s2) = true := beq_self_eq_true _
  clear E1 h1 h2
  go_enter Try.func20, Try.ntmps20
  go_wp2_with fail
  refine (newRng_any 0 w).mono ?_
  rintro e w1 ⟨g1, rfl, hr1, hg1, hb1⟩
  have R1 := Lib.hid hr1; have B1 := Lib.hid hb1; clear hr1 hb1
  go_wp2_with fail
  refine (newRng_any 1 w1).mono ?_
  rintro e w2 ⟨g2, rfl, hr2, hg2, hb2⟩
  have R12 : Hid (RngB w2 g1 1) := Lib.hid (R1.out.below hb2)
  have R2 : Hid (RngB w2 g2 1) := Lib.hid hr2
  have hlt : g1 < g2 := Nat.lt_of_lt_of_le R1.out.lt hg2
  have B2 := Lib.hid (B1.out.trans (hb2.mono B1.out.size)); clear hr2 hb2 R1 B1
  go_wp2_with fail
  refine (step_one w2).mono ?_
  rintro e w' ⟨rfl, rfl⟩
  go_wp2_with fail
  refine (refStep_one w2).mono ?_
  rintro e w' ⟨rfl, rfl⟩
  go_wp2_with fail
  refine (step_one w2).mono ?_
  rintro e w' ⟨rfl, rfl⟩
  go_wp2_with fail
  refine (N1.out g1 w2 R12.out).mono ?_
  rintro e w3 ⟨rfl, hr3, hf3⟩
  have R13 := Lib.hid hr3
  have R23 := Lib.hid (R2.out.keep hf3 (by show ¬ g2 = g1; omega))
  have B3 := Lib.hid (B2.out.trans (hf3.below B2.out.size (fun k _ e => by rw [show k = g1 from e]; exact hg1))); clear hr3 hf3 R2 R12 B2
  go_wp2_with fail
  refine (N1.out g2 w3 R23.out).mono ?_
  rintro e w4 ⟨rfl, hr4, hf4⟩
  have R24 := Lib.hid hr4
  have R14 := Lib.hid (R13.out.keep hf4 (by show ¬ g1 = g2; omega))
  have B4 := Lib.hid (B3.out.trans (hf4.below B3.out.size (fun k _ e => by rw [show k = g2 from e]; omega))); clear hr4 hf4 R23 R13 B3
  go_wp2_with fail
  refine (B0.out g1 w4 R14.out).mono ?_
  rintro e w5 ⟨rfl, hr5, hf5⟩
  have R15 := Lib.hid hr5
  have R25 := Lib.hid (R24.out.keep hf5 (by show ¬ g2 = g1; omega))
  have B5 := Lib.hid (B4.out.trans (hf5.below B4.out.size (fun k _ e => by rw [show k = g1 from e]; exact hg1))); clear hr5 hf5 R24 R14 B4
  go_wp2_with fail
  refine (N2.out g1 w5 R15.out).mono ?_
  rintro e w6 ⟨rfl, hr6, hf6⟩
  have R26 := Lib.hid (R25.out.keep hf6 (by show ¬ g2 = g1; omega))
  have B6 := Lib.hid (B5.out.trans (hf6.below B5.out.size (fun k _ e => by rw [show k = g1 from e]; exact hg1))); clear hr6 hf6 R25 R15 B5
  go_wp2_with fail
  refine (N2.out g2 w6 R26.out).mono ?_
  rintro e w7 ⟨rfl, hr7, hf7⟩
  have B7 := Lib.hid (B6.out.trans (hf7.below B6.out.size (fun k _ e => by rw [show k = g2 from e]; omega))); clear hr7 hf7 R26 B6
  go_wp2_with fail
  go_ret
  exact ⟨rfl, B7.out⟩

end Go.Proofs.Ytnelaeafjejjgaa
