/- The walk of known (law 18). -/
import Derived.Test.YtnelaeafjejjgaaAll18
import Derived.Test.YtnelaeafjejjgaaBef18
namespace Go.Proofs.Ytnelaeafjejjgaa
set_option maxRecDepth 100000
open Go.RowKit

def t3 : List Int := [1, 0, 1]

set_option maxRecDepth 100000 in
set_option maxHeartbeats 4000000 in
theorem known18_any (w : World) : Calls Try.prog 32 #[] w fun e w' => e = .returned (.bool true) ∧ Below w.heap.size w w' := by
  obtain ⟨w1, hw1⟩ : ∃ w1, w1 = w.alloc (.cells #[.int .i64 1, .int .i64 0, .int .i64 1] 3) := ⟨_, rfl⟩
  have HC : Hid (∀ n, CapV (w1.drewN n) w1.heap.size (.slice (some ⟨w.heap.size, 0, none⟩) 3 3) t3) := Lib.hid (fun n => by
    refine ⟨_, 3, rfl, Nat.le_refl _, Lies.below ?_ (below_drewN (Below.refl _ _) n)⟩
    rw [hw1]
    exact (lies_new w [.int .i64 1, .int .i64 0, .int .i64 1] 3).more (by simp))
  have HB1 : Hid (Below w.heap.size w w1) := Lib.hid (by rw [hw1]; exact below_alloc w _)
  have HW1 := Lib.hid hw1
  clear hw1
  have r0 : Rnd 0 0 := .inr ⟨by decide, rfl⟩
  have A3 := Lib.hid (fun n => at18_any 3 3 (w1.drewN n) (HC.out n).ints (by decide) (by decide) (.inr ⟨by decide, rfl⟩) (by decide))
  have A4 := Lib.hid (fun n => at18_any 4 4 (w1.drewN n) (HC.out n).ints (by decide) (by decide) (.inr ⟨by decide, rfl⟩) (by decide))
  have AN := Lib.hid (fun n => at18_nil (B := 0) (v := .slice none 0 0) 0 (w1.drewN n) ⟨none, 0, rfl, Lies.nil⟩)
  have N2 := Lib.hid (fun n => next18_any 0 2 2 (w1.drewN n) (HC.out n).ints (by decide) (.inr ⟨by decide, rfl⟩) (by decide))
  have N0 := Lib.hid (fun n => next18_any 5 0 0 (w1.drewN n) (HC.out n).ints (by decide) r0 (by decide))
  have S0 := Lib.hid (fun n => slots18_any 1 0 6 0 6 (w1.drewN n) (HC.out n) (by decide) (by decide) r0 (by decide) (.inr ⟨by decide, rfl⟩) (by decide))
  have R2 := Lib.hid (fun n => right18_any 2 (w1.drewN n) (HC.out n).ints (by decide))
  have R1 := Lib.hid (fun n => right18_any 1 (w1.drewN n) (HC.out n).ints (by decide))
  have L2 := Lib.hid (fun n => all18_any 2 (w1.drewN n) (HC.out n).ints (by decide))
  have L3 := Lib.hid (fun n => all18_any 3 (w1.drewN n) (HC.out n).ints (by decide))
  rw [show atN t3 3 = 1 from by decide] at A3
  rw [show atN t3 4 = 0 from by decide] at A4
  rw [show nextN t3 0 2 = 4 from by decide] at N2
  rw [show nextN t3 5 0 = -1 from by decide] at N0
  rw [show ((cntR t3 1 6 - cntR t3 1 0 : Nat) : Int) = 4 from by decide] at S0
  rw [show rightZ t3 2 = true from by decide] at R2
  rw [show rightZ t3 1 = false from by decide] at R1
  rw [show allZ t3 2 = true from by decide] at L2
  rw [show allZ t3 3 = false from by decide] at L3
  clear r0
  go_enter Try.func32, Try.ntmps32
  go_wp2_with fail
  rw [← HW1.out]
  refine (A3.out 0).mono ?_
  rintro e w' ⟨rfl, n, rfl⟩
  rw [show (w1.drewN 0).drewN n = w1.drewN n from by rw [World.drewN_drewN, Nat.zero_add]]
  go_wp2_with fail
  refine (A4.out n).mono ?_
  rintro e w' ⟨rfl, n2, rfl⟩
  rw [World.drewN_drewN]
  go_wp2_with fail
  refine (AN.out _).mono ?_
  rintro e w' ⟨rfl, n3, rfl⟩
  rw [World.drewN_drewN]
  go_wp2_with fail
  refine (N2.out _).mono ?_
  rintro e w' ⟨rfl, n4, rfl⟩
  rw [World.drewN_drewN]
  go_wp2_with fail
  refine (N0.out _).mono ?_
  rintro e w' ⟨rfl, n5, rfl⟩
  rw [World.drewN_drewN]
  go_wp2_with fail
  refine (S0.out _).mono ?_
  rintro e w' ⟨rfl, n6, rfl⟩
  rw [World.drewN_drewN]
  go_wp2_with fail
  refine (R2.out _).mono ?_
  rintro e w' ⟨rfl, rfl⟩
  go_wp2_with fail
  refine (R1.out _).mono ?_
  rintro e w' ⟨rfl, rfl⟩
  go_wp2_with fail
  refine (L2.out _).mono ?_
  rintro e w' ⟨rfl, rfl⟩
  go_wp2_with fail
  refine (L3.out _).mono ?_
  rintro e w' ⟨rfl, rfl⟩
  go_wp2_with fail
  go_ret
  exact ⟨rfl, below_drewN HB1.out _⟩

end Go.Proofs.Ytnelaeafjejjgaa
