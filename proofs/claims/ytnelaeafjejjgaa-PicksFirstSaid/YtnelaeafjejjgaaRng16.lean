/- Package rng, and the reference's Step, for any state. -/
import Derived.Test.YtnelaeafjejjgaaStep16
import Derived.Test.YtnelaeafjejjgaaFrm
import Derived.Laws.BitsAllLaws
import Derived.IntWalk
import Derived.Outline
namespace Go.Proofs.Ytnelaeafjejjgaa
set_option maxRecDepth 100000
open Go.RowKit

theorem wrapU64 (n : Int) : IntKind.u64.wrap n = n % 18446744073709551616 := by simp [IntKind.wrap, IntKind.bits, IntKind.signed]
theorem xorA {s : Nat} (h : s < 18446744073709551616) : bits .xor .u64 (s : Int) (IntKind.u64.wrap ((s : Int) * 8192)) = (stepA s : Int) := by
  have e : IntKind.u64.wrap ((s : Int) * 8192) = ((s * 8192 % 18446744073709551616 : Nat) : Int) := by rw [wrapU64]; omega
  rw [e, u64_xor_nat _ _ h (by omega)]; rfl
theorem xorB {s : Nat} (h : s < 18446744073709551616) : bits .xor .u64 (s : Int) ((s : Int) / 128) = (stepB s : Int) := by
  have e : ((s : Int) / 128) = ((s / 128 : Nat) : Int) := by omega
  rw [e, u64_xor_nat _ _ h (by omega)]; rfl
theorem xorC {s : Nat} (h : s < 18446744073709551616) : bits .xor .u64 (s : Int) (IntKind.u64.wrap ((s : Int) * 131072)) = (stepC s : Int) := by
  have e : IntKind.u64.wrap ((s : Int) * 131072) = ((s * 131072 % 18446744073709551616 : Nat) : Int) := by rw [wrapU64]; omega
  rw [e, u64_xor_nat _ _ h (by omega)]; rfl

set_option maxHeartbeats 1000000 in
theorem step16_any (s : Nat) (w : World) (hs : s < 18446744073709551616) : Calls Try.prog 25 #[.int .u64 s] w fun e w' => e = .returned (.int .u64 (stepN s : Nat)) ∧ w = w' := by
  have h1 := xorA hs
  have h2 := xorB (stepA_lt hs)
  have h3 := xorC (stepB_lt (stepA_lt hs))
  have h4 : stepC (stepB (stepA s)) = stepN s := rfl
  obtain ⟨z, hz⟩ : ∃ z, stepN s = z := ⟨_, rfl⟩
  rw [h4, hz] at h3
  rw [hz]
  generalize stepB (stepA s) = y at *
  generalize stepA s = x at *
  clear hs h4 hz
  go_enter Try.func25, Try.ntmps25
  go_wp2_with fail
  go_ret
  exact ⟨rfl, rfl⟩

set_option maxHeartbeats 1000000 in
theorem refStep16_any (s : Nat) (w : World) (hs : s < 18446744073709551616) : Calls Try.prog 22 #[.int .u64 s] w fun e w' => e = .returned (.int .u64 (stepN s : Nat)) ∧ w = w' := by
  have h1 := xorA hs
  have h2 := xorB (stepA_lt hs)
  have h3 := xorC (stepB_lt (stepA_lt hs))
  have h4 : stepC (stepB (stepA s)) = stepN s := rfl
  obtain ⟨z, hz⟩ : ∃ z, stepN s = z := ⟨_, rfl⟩
  rw [h4, hz] at h3
  rw [hz]
  generalize stepB (stepA s) = y at *
  generalize stepA s = x at *
  clear hs h4 hz
  go_enter Try.func22, Try.ntmps22
  go_wp2_with fail
  go_ret
  exact ⟨rfl, rfl⟩

/-- A generator in memory. -/
def RngB (w : World) (g s : Nat) : Prop := w.heap[g]? = some (.cells #[.int .u64 (s : Int)] 67 (0, 0))
theorem RngB.cell {w : World} {g s : Nat} (h : RngB w g s) : w.cell? ⟨g, 0, none⟩ = some (.int .u64 (s : Int)) := by rw [cell_blk h]; rfl
theorem RngB.free {w : World} {g s : Nat} (h : RngB w g s) : w.frozen? ⟨g, 0, none⟩ = false := frozen_blk h 0
theorem RngB.lt {w : World} {g s : Nat} (h : RngB w g s) : g < w.heap.size := (Array.getElem?_eq_some_iff.1 h).1
theorem RngB.set {w : World} {g s : Nat} (h : RngB w g s) (t : Nat) : RngB (w.setCell ⟨g, 0, none⟩ (.int .u64 (t : Int))) g t := by
  have := set_blk h 0 (.int .u64 (t : Int)); simpa [RngB] using this
theorem RngB.keep {S : Nat → Prop} {w w' : World} {g s : Nat} (h : RngB w g s) (hf : Frm S w w') (hn : ¬ S g) : RngB w' g s := (hf.block g h.lt hn).trans h
theorem RngB.below {w w' : World} {g s : Nat} (h : RngB w g s) (hb : Below w.heap.size w w') : RngB w' g s := (hb.block g h.lt).trans h

def seed1 (s : Nat) : Nat := if s = 0 then 1 else s
theorem seed1_lt {s : Nat} (h : s < 18446744073709551616) : seed1 s < 18446744073709551616 := by unfold seed1; split <;> omega
theorem seed1_pos (s : Nat) : seed1 s ≠ 0 := by unfold seed1; split <;> omega
def NewRng (w : World) (s : Nat) (e : Ending) (w' : World) : Prop := ∃ g, e = .returned (.pointer (some ⟨g, 0, none⟩)) ∧ RngB w' g s ∧ w.heap.size ≤ g ∧ Below w.heap.size w w'

set_option maxHeartbeats 1000000 in
theorem newRng_any (s : Nat) (w : World) : Calls Try.prog 21 #[.int .u64 s] w (NewRng w (seed1 s)) := by
  by_cases h0 : s = 0
  · subst h0
    rw [show (((0 : Nat) : Int)) = 0 from rfl]
    go_enter Try.func21, Try.ntmps21
    go_wp2_with fail
    go_ret
    exact ⟨_, rfl, heap_alloc_new w _, Nat.le_refl _, below_alloc w _⟩
  · rw [show seed1 s = s from if_neg h0]
    have h1 : ¬ ((s : Int) < 1) := by omega
    go_enter Try.func21, Try.ntmps21
    go_wp2_with fail
    go_ret
    exact ⟨_, rfl, heap_alloc_new w _, Nat.le_refl _, below_alloc w _⟩

/-- A call on a generator: its answer, its state behind, nothing else. -/
def RngDid (w : World) (g : Nat) (v : Value) (t : Nat) (e : Ending) (w' : World) : Prop := e = .returned v ∧ RngB w' g t ∧ Frm (One g) w w'

set_option maxHeartbeats 1000000 in
theorem next16_any (g s : Nat) (w : World) (h : RngB w g s) (hs : s < 18446744073709551616) : Calls Try.prog 23 #[.pointer (some ⟨g, 0, none⟩)] w (RngDid w g (.int .u64 (stepN s : Nat)) (stepN s)) := by
  have c0 := h.cell
  have f0 := h.free
  have H := Lib.hid h
  have HC := Lib.hid (fun w => step16_any s w hs)
  obtain ⟨t, ht⟩ : ∃ t, stepN s = t := ⟨_, rfl⟩
  rw [ht] at HC ⊢
  clear h hs ht
  go_enter Try.func23, Try.ntmps23
  go_wp2_with fail
  refine (HC.out w).mono ?_
  rintro e w' ⟨rfl, rfl⟩
  go_wp2_with fail
  go_ret
  exact ⟨rfl, H.out.set t, Frm.setCell (S := One g) (p := ⟨g, 0, none⟩) rfl _⟩

/-- Below. -/
def belowV (s : Nat) (n : Int) : Int := if n < 1 then 0 else ((stepN s % n.toNat : Nat) : Int)
def belowS (s : Nat) (n : Int) : Nat := if n < 1 then s else stepN s
theorem u64_of {n : Int} (h0 : 1 ≤ n) (h1 : n ≤ 9223372036854775807) : IntKind.u64.wrap n = n := by rw [wrapU64]; omega
theorem i64_mod {a n : Nat} (h0 : 1 ≤ n) (h1 : n ≤ 9223372036854775807) : wrap64 ((a % n : Nat) : Int) = ((a % n : Nat) : Int) := by
  have := Nat.mod_lt a (show 0 < n by omega)
  unfold wrap64; omega

set_option maxHeartbeats 1000000 in
theorem below16_any (g s : Nat) (n : Int) (w : World) (h : RngB w g s) (hs : s < 18446744073709551616) (hn : n ≤ 9223372036854775807) :
    Calls Try.prog 24 #[.pointer (some ⟨g, 0, none⟩), .int .i64 n] w (RngDid w g (.int .i64 (belowV s n)) (belowS s n)) := by
  have H := Lib.hid h
  by_cases h1 : n < 1
  · rw [show belowV s n = 0 from if_pos h1, show belowS s n = s from if_pos h1]
    clear h hs
    go_enter Try.func24, Try.ntmps24
    go_wp2_with fail
    go_ret
    exact ⟨rfl, H.out, Frm.refl _ _⟩
  · rw [show belowV s n = ((stepN s % n.toNat : Nat) : Int) from if_neg h1, show belowS s n = stepN s from if_neg h1]
    obtain ⟨k, rfl⟩ : ∃ k : Nat, n = k := ⟨n.toNat, by omega⟩
    rw [Int.toNat_natCast]
    have HC := Lib.hid (next16_any g s w h hs)
    have HW := Lib.hid (u64_of (n := k) (by omega) hn)
    obtain ⟨t, ht⟩ : ∃ t, stepN s = t := ⟨_, rfl⟩
    rw [ht] at HC ⊢
    have HM := Lib.hid (i64_mod (a := t) (n := k) (by omega) (by omega))
    have hk : 0 < k := by omega
    have hz : ¬ IntKind.u64.wrap (k : Int) = 0 := by rw [HW.out]; omega
    clear h hs ht hn
    go_enter Try.func24, Try.ntmps24
    go_wp2_with fail
    refine HC.out.mono ?_
    rintro e w' ⟨rfl, hr, hf⟩
    go_wp2_with fail
    go_ret
    exact ⟨by show Ending.returned (.int .i64 (wrap64 ((t : Int) % IntKind.u64.wrap (k : Int)))) = _; rw [HW.out, ← Int.natCast_emod, HM.out], hr, hf⟩

/-- Behind a call on a generator of the call's own: old memory stays, another generator stays. -/
theorem rng_below {W w w' : World} {g : Nat} (hb : Below W.heap.size W w) (hf : Frm (One g) w w') (hg : W.heap.size ≤ g) : Below W.heap.size W w' :=
  hb.trans (hf.below hb.size (fun k _ e => by rw [show k = g from e]; exact hg))
theorem RngB.other {w w' : World} {g g' s : Nat} (h : RngB w g s) (hf : Frm (One g') w w') (hn : g ≠ g') : RngB w' g s := h.keep hf hn

end Go.Proofs.Ytnelaeafjejjgaa
