/- Package word, and the reference's Div and Truth, for any numbers. -/
import Derived.Test.YtjnlgmjcabbaaaaRows
import Derived.WalkKit
import Derived.WalkLawsBesides
import Derived.Lib.Hide
import Derived.Outline
namespace Go.Proofs.Ytjnlgmjcabbaaaa
set_option maxRecDepth 100000
open Go.RowKit

/-- The answers. -/
def addZ (a b : Int) : Int := wrap32 (a + b)
def subZ (a b : Int) : Int := wrap32 (a - b)
def mulZ (a b : Int) : Int := wrap32 (a * b)
def truthZ (z : Bool) : Int := if z then 1 else 0
def divZ (a b : Int) : Int := wrap32 (Int.tdiv a b)

theorem wrap32_mod (n : Int) : wrap32 (n % 4294967296) = wrap32 n := by unfold wrap32; omega
theorem wrap32_of {x y : Int} (h : x % 4294967296 = y % 4294967296) : wrap32 x = wrap32 y := by rw [← wrap32_mod x, h, wrap32_mod]
theorem mod_wrap32 (x : Int) : wrap32 x % 4294967296 = x % 4294967296 := by unfold wrap32; omega
theorem add_res (a b : Int) : wrap32 ((a % 4294967296 + b % 4294967296) % 4294967296) = addZ a b := by unfold addZ wrap32; omega
theorem sub_res (a b : Int) : wrap32 ((a % 4294967296 - b % 4294967296) % 4294967296) = subZ a b := by unfold subZ wrap32; omega
theorem mul_res (a b : Int) : wrap32 ((a % 4294967296 * (b % 4294967296)) % 4294967296) = mulZ a b := by
  unfold mulZ; rw [← Int.mul_emod, wrap32_mod]

set_option maxHeartbeats 1000000 in
theorem plus_any (a b : Int) (w : World) : Calls Try.prog 60 #[.int .u32 a, .int .u32 b] w fun e w' => e = .returned (.int .u32 ((a + b) % 4294967296)) ∧ w' = w := by
  go_enter Try.func60, Try.ntmps60
  go_wp2_with fail
  go_ret
  exact ⟨rfl, rfl⟩
set_option maxHeartbeats 1000000 in
theorem minus_any (a b : Int) (w : World) : Calls Try.prog 61 #[.int .u32 a, .int .u32 b] w fun e w' => e = .returned (.int .u32 ((a - b) % 4294967296)) ∧ w' = w := by
  go_enter Try.func61, Try.ntmps61
  go_wp2_with fail
  go_ret
  exact ⟨rfl, rfl⟩
set_option maxHeartbeats 1000000 in
theorem times_any (a b : Int) (w : World) : Calls Try.prog 62 #[.int .u32 a, .int .u32 b] w fun e w' => e = .returned (.int .u32 ((a * b) % 4294967296)) ∧ w' = w := by
  go_enter Try.func62, Try.ntmps62
  go_wp2_with fail
  go_ret
  exact ⟨rfl, rfl⟩

set_option maxHeartbeats 1000000 in
theorem modulo_any (k : FuncId) (a b c : Int) (w : World)
    (hF : ∀ w', Calls Try.prog k #[.int .u32 (a % 4294967296), .int .u32 (b % 4294967296)] w' fun e w'' => e = .returned (.int .u32 c) ∧ w'' = w')
    (hE : ∀ xs w', (callFunc k xs).run Try.prog w' = .ok (.enter k xs) w') :
    Calls Try.prog 59 #[.func (.func k) #[] #[], .int .i32 a, .int .i32 b] w fun e w' => e = .returned (.int .i32 (wrap32 c)) ∧ w' = w := by
  go_enter Try.func59, Try.ntmps59
  go_wp2_with fail
  refine (hF w).mono ?_
  rintro e w' ⟨rfl, rfl⟩
  go_wp2_with fail
  go_ret
  exact ⟨rfl, rfl⟩

set_option maxHeartbeats 1000000 in
theorem add_any (a b : Int) (w : World) : Calls Try.prog 31 #[.int .i32 a, .int .i32 b] w fun e w' => e = .returned (.int .i32 (addZ a b)) ∧ w' = w := by
  go_enter Try.func31, Try.ntmps31
  go_wp2_with fail
  refine (modulo_any _ a b _ w (fun w' => plus_any _ _ w') (fun xs w' => Try.call60 xs w')).mono ?_
  rintro e w' ⟨rfl, rfl⟩
  rw [add_res]
  go_wp2_with fail
  go_ret
  exact ⟨rfl, rfl⟩
set_option maxHeartbeats 1000000 in
theorem sub_any (a b : Int) (w : World) : Calls Try.prog 32 #[.int .i32 a, .int .i32 b] w fun e w' => e = .returned (.int .i32 (subZ a b)) ∧ w' = w := by
  go_enter Try.func32, Try.ntmps32
  go_wp2_with fail
  refine (modulo_any _ a b _ w (fun w' => minus_any _ _ w') (fun xs w' => Try.call61 xs w')).mono ?_
  rintro e w' ⟨rfl, rfl⟩
  rw [sub_res]
  go_wp2_with fail
  go_ret
  exact ⟨rfl, rfl⟩
set_option maxHeartbeats 1000000 in
theorem mul_any (a b : Int) (w : World) : Calls Try.prog 33 #[.int .i32 a, .int .i32 b] w fun e w' => e = .returned (.int .i32 (mulZ a b)) ∧ w' = w := by
  go_enter Try.func33, Try.ntmps33
  go_wp2_with fail
  refine (modulo_any _ a b _ w (fun w' => times_any _ _ w') (fun xs w' => Try.call62 xs w')).mono ?_
  rintro e w' ⟨rfl, rfl⟩
  rw [mul_res]
  go_wp2_with fail
  go_ret
  exact ⟨rfl, rfl⟩

set_option maxHeartbeats 1000000 in
theorem truth_any (z : Bool) (w : World) : Calls Try.prog 63 #[.bool z] w fun e w' => e = .returned (.int .i32 (truthZ z)) ∧ w' = w := by
  cases z
  all_goals go_enter Try.func63, Try.ntmps63
  all_goals go_wp2_with fail
  all_goals go_ret
  all_goals exact ⟨rfl, rfl⟩
set_option maxHeartbeats 1000000 in
theorem refTruth_any (z : Bool) (w : World) : Calls Try.prog 35 #[.bool z] w fun e w' => e = .returned (.int .i32 (truthZ z)) ∧ w' = w := by
  cases z
  all_goals go_enter Try.func35, Try.ntmps35
  all_goals go_wp2_with fail
  all_goals go_ret
  all_goals exact ⟨rfl, rfl⟩
set_option maxHeartbeats 1000000 in
theorem less_any (a b : Int) (w : World) : Calls Try.prog 34 #[.int .i32 a, .int .i32 b] w fun e w' => e = .returned (.int .i32 (truthZ (decide (a < b)))) ∧ w' = w := by
  go_enter Try.func34, Try.ntmps34
  go_wp2_with fail
  refine (truth_any _ w).mono ?_
  rintro e w' ⟨rfl, rfl⟩
  go_wp2_with fail
  go_ret
  exact ⟨rfl, rfl⟩
set_option maxHeartbeats 1000000 in
theorem eq_any (a b : Int) (w : World) : Calls Try.prog 36 #[.int .i32 a, .int .i32 b] w fun e w' => e = .returned (.int .i32 (truthZ (a == b))) ∧ w' = w := by
  go_enter Try.func36, Try.ntmps36
  go_wp2_with fail
  refine (truth_any _ w).mono ?_
  rintro e w' ⟨rfl, rfl⟩
  go_wp2_with fail
  go_ret
  exact ⟨rfl, rfl⟩

theorem div_small {a b : Int} (ha : -2147483648 ≤ a ∧ a ≤ 2147483647) : -2147483648 ≤ Int.tdiv a b ∧ Int.tdiv a b ≤ 2147483648 := by
  have h := Int.natAbs_tdiv_le_natAbs a b
  omega

set_option maxHeartbeats 1000000 in
theorem div_yes (a b : Int) (w : World) (ha : -2147483648 ≤ a ∧ a ≤ 2147483647) (hbr : -2147483648 ≤ b ∧ b ≤ 2147483647) (hb : (b == 0) = false) : Calls Try.prog 29 #[.int .i32 a, .int .i32 b] w fun e w' => e = .returned (.tuple #[.int .i32 (divZ a b), .bool true]) ∧ w' = w := by
  have hw : IntKind.i64.wrap (Int.tdiv a b) = Int.tdiv a b := by
    have := div_small (b := b) ha
    exact IntWalk.i64_in _ (by omega)
  have hn : b ≠ 0 := by simpa using hb
  go_enter Try.func29, Try.ntmps29
  go_wp2_with fail
  go_ret2
  exact ⟨rfl, rfl⟩
set_option maxHeartbeats 1000000 in
theorem div_no (a : Int) (w : World) : Calls Try.prog 29 #[.int .i32 a, .int .i32 0] w fun e w' => e = .returned (.tuple #[.int .i32 0, .bool false]) ∧ w' = w := by
  go_enter Try.func29, Try.ntmps29
  go_wp2_with fail
  go_ret2
  exact ⟨rfl, rfl⟩
set_option maxHeartbeats 1000000 in
theorem refDiv_yes (a b : Int) (w : World) (ha : -2147483648 ≤ a ∧ a ≤ 2147483647) (hbr : -2147483648 ≤ b ∧ b ≤ 2147483647) (hb : (b == 0) = false) : Calls Try.prog 30 #[.int .i32 a, .int .i32 b] w fun e w' => e = .returned (.tuple #[.int .i32 (divZ a b), .bool true]) ∧ w' = w := by
  have hw : IntKind.i64.wrap (Int.tdiv a b) = Int.tdiv a b := by
    have := div_small (b := b) ha
    exact IntWalk.i64_in _ (by omega)
  have hn : b ≠ 0 := by simpa using hb
  go_enter Try.func30, Try.ntmps30
  go_wp2_with fail
  go_ret2
  exact ⟨rfl, rfl⟩
set_option maxHeartbeats 1000000 in
theorem refDiv_no (a : Int) (w : World) : Calls Try.prog 30 #[.int .i32 a, .int .i32 0] w fun e w' => e = .returned (.tuple #[.int .i32 0, .bool false]) ∧ w' = w := by
  go_enter Try.func30, Try.ntmps30
  go_wp2_with fail
  go_ret2
  exact ⟨rfl, rfl⟩

/-- The quotient, and whether there is one. -/
def divA (a b : Int) : Int := if b = 0 then 0 else divZ a b
theorem div_any (a b : Int) (w : World) (ha : -2147483648 ≤ a ∧ a ≤ 2147483647) (hbr : -2147483648 ≤ b ∧ b ≤ 2147483647) : Calls Try.prog 29 #[.int .i32 a, .int .i32 b] w fun e w' => e = .returned (.tuple #[.int .i32 (divA a b), .bool (b != 0)]) ∧ w' = w := by
  unfold divA
  by_cases h : b = 0
  · subst h; exact div_no a w
  · have h1 : (b == 0) = false := by simpa using h
    rw [if_neg h, show (b != 0) = true from by simpa using h]; exact div_yes a b w ha hbr h1
theorem refDiv_any (a b : Int) (w : World) (ha : -2147483648 ≤ a ∧ a ≤ 2147483647) (hbr : -2147483648 ≤ b ∧ b ≤ 2147483647) : Calls Try.prog 30 #[.int .i32 a, .int .i32 b] w fun e w' => e = .returned (.tuple #[.int .i32 (divA a b), .bool (b != 0)]) ∧ w' = w := by
  unfold divA
  by_cases h : b = 0
  · subst h; exact refDiv_no a w
  · have h1 : (b == 0) = false := by simpa using h
    rw [if_neg h, show (b != 0) = true from by simpa using h]; exact refDiv_yes a b w ha hbr h1

end Go.Proofs.Ytjnlgmjcabbaaaa
