/- The walk of bits.Len64: it returns the number of bits of its argument and changes nothing. -/
import Derived.Test.YtmcphlklknfbmaaRows
import Derived.Tactics2
import Derived.Lib.Strings
import Derived.Lib.Slices
import Derived.Lib.Small
import Derived.Lib.Walk
import Derived.Lib.BitFns
import Derived.Lib.Tables
namespace Go.Proofs.Ytmcphlklknfbmaa
set_option maxRecDepth 100000

/-- The table's byte for what is left above s bits. -/
theorem tab_at (x y : Int) (s : Nat) (hx : x.toNat < 2 ^ 64) (hs : s = 0 ∨ 2 ^ s ≤ x.toNat) (hy : y.toNat = x.toNat / 2 ^ s) (h0 : 0 ≤ y) (h1 : y ≤ 255) :
    Lib.len8 y + s = Lib.bitLen x.toNat ∧ 0 ≤ Lib.len8 y ∧ Lib.len8 y ≤ 8 := by
  have e := Lib.len8_of y h0 h1
  have l := Lib.bitLen_le8' y h0 h1
  rw [e]
  refine ⟨?_, by omega, by omega⟩
  rcases hs with rfl | hs
  · rw [hy]; simp
  · rw [hy, Lib.bitLen_shift s x.toNat hs hx]; omega

set_option maxHeartbeats 4000000 in
set_option maxRecDepth 100000 in
theorem len64_any (x : Int) (w : World) (h0 : 0 ≤ x) (h1 : x ≤ 18446744073709551615) :
    Calls Try.prog 105 #[.int .u64 x] w fun e w' => e = .returned (.int .i64 (Lib.bitLen x.toNat)) ∧ w = w' := by
  go_enter Try.func105, Try.ntmps105
  go_wp2
  all_goals (go_ret; refine ⟨congrArg Ending.returned (congrArg (Value.int IntKind.i64) ?_), rfl⟩)
  all_goals first
    | (have t := tab_at x (x / 4294967296 / 65536 / 256 % 256) 56 (by omega) (.inr (by omega)) (by omega) (by omega) (by omega); generalize Lib.len8 (x / 4294967296 / 65536 / 256 % 256) = z at *; omega)
    | (have t := tab_at x (x / 4294967296 / 65536 % 256) 48 (by omega) (.inr (by omega)) (by omega) (by omega) (by omega); generalize Lib.len8 (x / 4294967296 / 65536 % 256) = z at *; omega)
    | (have t := tab_at x (x / 4294967296 / 256 % 256) 40 (by omega) (.inr (by omega)) (by omega) (by omega) (by omega); generalize Lib.len8 (x / 4294967296 / 256 % 256) = z at *; omega)
    | (have t := tab_at x (x / 4294967296 % 256) 32 (by omega) (.inr (by omega)) (by omega) (by omega) (by omega); generalize Lib.len8 (x / 4294967296 % 256) = z at *; omega)
    | (have t := tab_at x (x / 65536 / 256 % 256) 24 (by omega) (.inr (by omega)) (by omega) (by omega) (by omega); generalize Lib.len8 (x / 65536 / 256 % 256) = z at *; omega)
    | (have t := tab_at x (x / 65536 % 256) 16 (by omega) (.inr (by omega)) (by omega) (by omega) (by omega); generalize Lib.len8 (x / 65536 % 256) = z at *; omega)
    | (have t := tab_at x (x / 256 % 256) 8 (by omega) (.inr (by omega)) (by omega) (by omega) (by omega); generalize Lib.len8 (x / 256 % 256) = z at *; omega)
    | (have t := tab_at x (x % 256) 0 (by omega) (.inl rfl) (by omega) (by omega) (by omega); generalize Lib.len8 (x % 256) = z at *; omega)

end Go.Proofs.Ytmcphlklknfbmaa
