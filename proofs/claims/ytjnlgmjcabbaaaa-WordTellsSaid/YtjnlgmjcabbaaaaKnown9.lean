/- The walk of known (law 9). -/
import Derived.Test.YtjnlgmjcabbaaaaWord
namespace Go.Proofs.Ytjnlgmjcabbaaaa
set_option maxRecDepth 100000
open Go.RowKit

set_option maxRecDepth 100000 in
set_option maxHeartbeats 4000000 in
theorem known9_any (w : World) : Calls Try.prog 28 #[] w fun e w' => e = .returned (.bool true) ∧ w' = w := by
  go_enter Try.func28, Try.ntmps28
  go_wp2_with fail
  refine (div_any (-7) 2 w (by decide) (by decide)).mono ?_
  rintro e w' ⟨rfl, rfl⟩
  rw [show divA (-7) 2 = -3 from by decide +kernel, show ((2 : Int) != 0) = true from rfl]
  go_wp2_with fail
  refine (div_any 1 0 w' (by decide) (by decide)).mono ?_
  rintro e w' ⟨rfl, rfl⟩
  rw [show divA 1 0 = 0 from rfl, show ((0 : Int) != 0) = false from rfl]
  go_wp2_with fail
  refine (div_any (-2147483648) (-1) w' (by decide) (by decide)).mono ?_
  rintro e w' ⟨rfl, rfl⟩
  rw [show divA (-2147483648) (-1) = -2147483648 from by decide +kernel, show ((-1 : Int) != 0) = true from rfl]
  go_wp2_with fail
  refine (add_any 2147483647 1 w').mono ?_
  rintro e w' ⟨rfl, rfl⟩
  rw [show addZ 2147483647 1 = -2147483648 from by decide +kernel]
  go_wp2_with fail
  refine (sub_any 1 2 w').mono ?_
  rintro e w' ⟨rfl, rfl⟩
  rw [show subZ 1 2 = -1 from by decide +kernel]
  go_wp2_with fail
  refine (mul_any 3 (-4) w').mono ?_
  rintro e w' ⟨rfl, rfl⟩
  rw [show mulZ 3 (-4) = -12 from by decide +kernel]
  go_wp2_with fail
  refine (less_any 1 2 w').mono ?_
  rintro e w' ⟨rfl, rfl⟩
  rw [show truthZ (decide ((1 : Int) < 2)) = 1 from by decide +kernel]
  go_wp2_with fail
  refine (eq_any 1 2 w').mono ?_
  rintro e w' ⟨rfl, rfl⟩
  rw [show truthZ ((1 : Int) == 2) = 0 from by decide +kernel]
  go_wp2_with fail
  go_ret
  exact ⟨rfl, rfl⟩

end Go.Proofs.Ytjnlgmjcabbaaaa
