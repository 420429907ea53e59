/- The step of a generator, as a function of natural numbers below 2^64: linear over xor, no two states to one, only nought to nought. Nothing here speaks of the program. -/
import Derived.Test.YtnelaeafjejjgaaRows
namespace Go.Proofs.Ytnelaeafjejjgaa
set_option maxRecDepth 100000

def p64 : Nat := 18446744073709551616
def stepA (s : Nat) : Nat := s ^^^ s * 8192 % 18446744073709551616
def stepB (a : Nat) : Nat := a ^^^ a / 128
def stepC (b : Nat) : Nat := b ^^^ b * 131072 % 18446744073709551616
def stepN (s : Nat) : Nat := stepC (stepB (stepA s))

def stepVA (x : BitVec 64) : BitVec 64 := x ^^^ x <<< 13
def stepVB (x : BitVec 64) : BitVec 64 := x ^^^ x >>> 7
def stepVC (x : BitVec 64) : BitVec 64 := x ^^^ x <<< 17
def stepV (x : BitVec 64) : BitVec 64 := stepVC (stepVB (stepVA x))

theorem stepA_V (x : BitVec 64) : stepA x.toNat = (stepVA x).toNat := by
  unfold stepA stepVA
  rw [BitVec.toNat_xor, BitVec.toNat_shiftLeft, Nat.shiftLeft_eq]
theorem stepB_V (x : BitVec 64) : stepB x.toNat = (stepVB x).toNat := by
  unfold stepB stepVB
  rw [BitVec.toNat_xor, BitVec.toNat_ushiftRight, Nat.shiftRight_eq_div_pow]
theorem stepC_V (x : BitVec 64) : stepC x.toNat = (stepVC x).toNat := by
  unfold stepC stepVC
  rw [BitVec.toNat_xor, BitVec.toNat_shiftLeft, Nat.shiftLeft_eq]
theorem stepN_V (x : BitVec 64) : stepN x.toNat = (stepV x).toNat := by
  unfold stepN stepV
  rw [stepA_V, stepB_V, stepC_V]
theorem stepN_of {s : Nat} (h : s < 18446744073709551616) : stepN s = (stepV (BitVec.ofNat 64 s)).toNat := by
  have := stepN_V (BitVec.ofNat 64 s)
  rwa [BitVec.toNat_ofNat, Nat.mod_eq_of_lt h] at this
theorem stepN_lt {s : Nat} (h : s < 18446744073709551616) : stepN s < 18446744073709551616 := by
  rw [stepN_of h]; exact (stepV _).isLt
theorem stepA_lt {s : Nat} (h : s < 18446744073709551616) : stepA s < 18446744073709551616 := by
  have := stepA_V (BitVec.ofNat 64 s)
  rw [BitVec.toNat_ofNat, Nat.mod_eq_of_lt h] at this
  rw [this]; exact (stepVA _).isLt
theorem stepB_lt {s : Nat} (h : s < 18446744073709551616) : stepB s < 18446744073709551616 := by
  have := stepB_V (BitVec.ofNat 64 s)
  rw [BitVec.toNat_ofNat, Nat.mod_eq_of_lt h] at this
  rw [this]; exact (stepVB _).isLt

theorem xor_swap (a b c d : BitVec 64) : a ^^^ b ^^^ (c ^^^ d) = a ^^^ c ^^^ (b ^^^ d) := by
  rw [BitVec.xor_assoc, BitVec.xor_assoc, ← BitVec.xor_assoc b c d, BitVec.xor_comm b c, BitVec.xor_assoc c b d]
theorem stepVA_xor (x y : BitVec 64) : stepVA (x ^^^ y) = stepVA x ^^^ stepVA y := by
  unfold stepVA; rw [BitVec.shiftLeft_xor_distrib, xor_swap]
theorem stepVB_xor (x y : BitVec 64) : stepVB (x ^^^ y) = stepVB x ^^^ stepVB y := by
  unfold stepVB; rw [BitVec.ushiftRight_xor_distrib, xor_swap]
theorem stepVC_xor (x y : BitVec 64) : stepVC (x ^^^ y) = stepVC x ^^^ stepVC y := by
  unfold stepVC; rw [BitVec.shiftLeft_xor_distrib, xor_swap]
theorem stepV_xor (x y : BitVec 64) : stepV (x ^^^ y) = stepV x ^^^ stepV y := by
  unfold stepV; rw [stepVA_xor, stepVB_xor, stepVC_xor]
theorem stepVA_zero {x : BitVec 64} (h : stepVA x = 0#64) : x = 0#64 := by
  have h1 : x = x <<< 13 := by
    have := BitVec.xor_eq_zero_iff.1 h
    exact this
  have h2 : x = x <<< 26 := by
    have e : x <<< 26 = (x <<< 13) <<< 13 := by rw [← BitVec.shiftLeft_add]
    rw [e, ← h1]; exact h1
  have h3 : x = x <<< 52 := by
    have e : x <<< 52 = (x <<< 26) <<< 26 := by rw [← BitVec.shiftLeft_add]
    rw [e, ← h2]; exact h2
  have h4 : x = x <<< 104 := by
    have e : x <<< 104 = (x <<< 52) <<< 52 := by rw [← BitVec.shiftLeft_add]
    rw [e, ← h3]; exact h3
  rw [h4]; exact BitVec.shiftLeft_eq_zero (by decide)
theorem stepVC_zero {x : BitVec 64} (h : stepVC x = 0#64) : x = 0#64 := by
  have h1 : x = x <<< 17 := by
    have := BitVec.xor_eq_zero_iff.1 h
    exact this
  have h2 : x = x <<< 34 := by
    have e : x <<< 34 = (x <<< 17) <<< 17 := by rw [← BitVec.shiftLeft_add]
    rw [e, ← h1]; exact h1
  have h3 : x = x <<< 68 := by
    have e : x <<< 68 = (x <<< 34) <<< 34 := by rw [← BitVec.shiftLeft_add]
    rw [e, ← h2]; exact h2
  rw [h3]; exact BitVec.shiftLeft_eq_zero (by decide)
theorem stepVB_zero {x : BitVec 64} (h : stepVB x = 0#64) : x = 0#64 := by
  have h1 : x = x >>> 7 := by
    have := BitVec.xor_eq_zero_iff.1 h
    exact this
  have h2 : x = x >>> 14 := by
    have e : x >>> 14 = (x >>> 7) >>> 7 := by rw [← BitVec.shiftRight_add]
    rw [e, ← h1]; exact h1
  have h3 : x = x >>> 28 := by
    have e : x >>> 28 = (x >>> 14) >>> 14 := by rw [← BitVec.shiftRight_add]
    rw [e, ← h2]; exact h2
  have h4 : x = x >>> 56 := by
    have e : x >>> 56 = (x >>> 28) >>> 28 := by rw [← BitVec.shiftRight_add]
    rw [e, ← h3]; exact h3
  have h5 : x = x >>> 112 := by
    have e : x >>> 112 = (x >>> 56) >>> 56 := by rw [← BitVec.shiftRight_add]
    rw [e, ← h4]; exact h4
  rw [h5]; exact BitVec.ushiftRight_eq_zero (by decide)
theorem stepV_zero {x : BitVec 64} (h : stepV x = 0#64) : x = 0#64 := stepVA_zero (stepVB_zero (stepVC_zero h))
theorem stepV_inj {x y : BitVec 64} (h : stepV x = stepV y) : x = y := by
  have h0 : stepV (x ^^^ y) = 0#64 := by rw [stepV_xor, h, BitVec.xor_self]
  exact BitVec.xor_eq_zero_iff.1 (stepV_zero h0)

theorem stepN_inj {a b : Nat} (ha : a < 18446744073709551616) (hb : b < 18446744073709551616) (h : stepN a = stepN b) : a = b := by
  rw [stepN_of ha, stepN_of hb] at h
  have := congrArg BitVec.toNat (stepV_inj (BitVec.toNat_inj.1 h))
  rwa [BitVec.toNat_ofNat, BitVec.toNat_ofNat, Nat.mod_eq_of_lt ha, Nat.mod_eq_of_lt hb] at this
theorem stepN_zero : stepN 0 = 0 := by decide
theorem stepN_pos {a : Nat} (ha : a < 18446744073709551616) (h : a ≠ 0) : stepN a ≠ 0 := fun e => h (stepN_inj ha (by decide) (e.trans stepN_zero.symm))
theorem xor_lt64 {a b : Nat} (ha : a < 18446744073709551616) (hb : b < 18446744073709551616) : a ^^^ b < 18446744073709551616 := Nat.xor_lt_two_pow (n := 64) ha hb
theorem stepN_xor {a b : Nat} (ha : a < 18446744073709551616) (hb : b < 18446744073709551616) : stepN a ^^^ stepN b = stepN (a ^^^ b) := by
  rw [stepN_of ha, stepN_of hb, stepN_of (xor_lt64 ha hb), ← BitVec.toNat_xor, ← stepV_xor, BitVec.ofNat_xor]
theorem xor_ne {a m : Nat} (hm : m ≠ 0) : a ^^^ m ≠ a := by
  intro h
  apply hm
  have := congrArg (a ^^^ ·) h
  simpa [← Nat.xor_assoc] using this

/-- The state after n steps. -/
def stepsN : Nat → Nat → Nat
  | 0, s => s
  | n + 1, s => stepN (stepsN n s)
theorem stepsN_lt {s : Nat} (h : s < 18446744073709551616) : ∀ n, stepsN n s < 18446744073709551616
  | 0 => h
  | n + 1 => stepN_lt (stepsN_lt h n)
theorem stepsN_pos {s : Nat} (h : s < 18446744073709551616) (h0 : s ≠ 0) : ∀ n, stepsN n s ≠ 0
  | 0 => h0
  | n + 1 => stepN_pos (stepsN_lt h n) (stepsN_pos h h0 n)

end Go.Proofs.Ytnelaeafjejjgaa
