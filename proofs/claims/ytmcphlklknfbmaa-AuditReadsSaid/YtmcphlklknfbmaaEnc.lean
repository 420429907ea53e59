/- Plain facts about the encoding of numbers: groups of seven bits, the most significant one first. Nothing here speaks of the program. -/
import Derived.Lib.BitFns
namespace Go.Proofs.Ytmcphlklknfbmaa
set_option maxRecDepth 100000
open Go

/-- How many groups of a number come before the last one. -/
def topk (x : Nat) : Nat := (max (Lib.bitLen x) 1 - 1) / 7

/-- The bytes of a number: k groups with the high bit, and the last one. -/
def encAt (x : Nat) : Nat → List Int
  | 0 => [((x % 128 : Nat) : Int)]
  | k + 1 => ((128 + x / 2 ^ (7 * (k + 1)) % 128 : Nat) : Int) :: encAt x k

def enc (x : Nat) : List Int := encAt x (topk x)

theorem encAt_length (x k : Nat) : (encAt x k).length = k + 1 := by
  induction k with
  | zero => rfl
  | succ k ih => simp [encAt, ih]

theorem bitLen64 (x : Nat) (h : x < 18446744073709551616) : Lib.bitLen x ≤ 64 := Lib.bitLen_le x 64 (by omega) h

theorem topk_le (x : Nat) (h : x < 18446744073709551616) : topk x ≤ 9 := by
  have := bitLen64 x h
  unfold topk; omega

theorem enc_length (x : Nat) : (enc x).length = topk x + 1 := encAt_length x (topk x)

theorem enc_length_le (x : Nat) (h : x < 18446744073709551616) : 1 ≤ (enc x).length ∧ (enc x).length ≤ 10 := by
  have := topk_le x h
  rw [enc_length]; omega

end Go.Proofs.Ytmcphlklknfbmaa
