/- The seat's instructions. (Cut out of s6/XKnown6.) -/
import Derived.Test.YtjnlgmjcabbaaaaIns8
import Derived.Test.YtjnlgmjcabbaaaaRes
namespace Go.Proofs.Ytjnlgmjcabbaaaa
set_option maxRecDepth 100000
open Go.RowKit

set_option maxHeartbeats 1000000 in
theorem in_any (op arg : Int) (w : World) (h : I32 arg) : Calls Try.prog 52 #[.int .i64 op, .int .i64 arg] w fun e w' => e = .returned (insV op arg) ∧ Below w.heap.size w w' := by
  obtain ⟨h1, h2⟩ := h
  have ew : wrap32 arg = arg := by unfold wrap32; omega
  have hn := heap_alloc_new w (.cells #[.int .i64 op, .int .i32 arg] 32)
  have hb := Lib.hid (below_alloc w (.cells #[.int .i64 op, .int .i32 arg] 32))
  have HN := Lib.hid hn; clear hn
  unfold insV
  go_enter Try.func52, Try.ntmps52
  go_wp2
  try simp only [Exit.inBlock, Exit.then]
  refine ret_instr rfl rfl rfl HN.out ?_
  exact ⟨rfl, hb.out⟩

def seatOp (k : Nat) : Nat := k % 26 + 1
def seatArg (k a : Nat) : Int := if argZ (seatOp k) = 0 then 0 else ((a % 12 : Nat) : Int)
theorem seat_right (k a : Nat) : rightB (seatOp k) (seatArg k a) = true := by
  have hk : knownB (seatOp k : Nat) = true := (knownB_iff _).2 (by unfold seatOp; omega)
  unfold rightB seatArg
  rw [hk]
  by_cases h : argZ (seatOp k : Nat) = 0
  · simp [h]
  · simp [h]; left; omega
theorem seat_range (k a : Nat) : I32 (seatArg k a) := by
  unfold seatArg I32; split <;> omega

set_option maxHeartbeats 1000000 in
theorem seatInstr_any (k a : Nat) (w : World) (hk : k ≤ 255) (ha : a ≤ 255) : Calls Try.prog 26 #[.int .u8 k, .int .u8 a] w fun e w' => e = .returned (insV (seatOp k) (seatArg k a)) ∧ Below w.heap.size w w' := by
  obtain ⟨n, hn⟩ : ∃ n, seatOp k = n := ⟨_, rfl⟩
  have en : (k : Int) % 26 + 1 = (n : Int) := by rw [← hn]; unfold seatOp; omega
  obtain ⟨z, hz⟩ : ∃ z, argZ n = z := ⟨_, rfl⟩
  have HA : Hid (∀ w, Calls Try.prog 27 #[.int .i64 n] w fun e w' => e = .returned (.int .i64 z) ∧ w' = w) := Lib.hid fun w => by rw [← hz]; exact refArg_any n w
  have hx : seatArg k a = if z = 0 then 0 else ((a % 12 : Nat) : Int) := by unfold seatArg; rw [hn, hz]
  have hq0 := heap_alloc_new w (.cells #[.int .i64 0, .int .i32 0] 32)
  have hb := below_alloc w (.cells #[.int .i64 0, .int .i32 0] 32)
  obtain ⟨w1, hw1⟩ : ∃ w1, w.alloc (.cells #[.int .i64 0, .int .i32 0] 32) = w1 := ⟨_, rfl⟩
  obtain ⟨q, hq⟩ : ∃ q, w.heap.size = q := ⟨_, rfl⟩
  rw [hw1] at hq0 hb
  rw [hq] at hq0
  have HQ0 := Lib.hid hq0; have B1 := Lib.hid hb; have HQ := Lib.hid hq
  have hs1 := (Array.getElem?_eq_some_iff.1 hq0).1
  have IN : Hid (∀ x w, I32 x → Calls Try.prog 52 #[.int .i64 n, .int .i64 x] w fun e w' => e = .returned (.agg #[.int .i64 n, .int .i32 x]) ∧ Below w.heap.size w w') := Lib.hid fun x w h => in_any n x w h
  have STQ : Hid (∀ (x : Int) w2, Below w1.heap.size w1 w2 →
      ((w2.setCell ⟨q, 0, none⟩ (.int .i64 n)).setCell ⟨q, 1, none⟩ (.int .i32 x)).heap[q]? = some (.cells #[.int .i64 n, .int .i32 x] 32 (0, 0)) ∧ Below w.heap.size w ((w2.setCell ⟨q, 0, none⟩ (.int .i64 n)).setCell ⟨q, 1, none⟩ (.int .i32 x))) := Lib.hid fun x w2 hb2 => by
    have h2 := (hb2.block q hs1).trans HQ0.out
    refine ⟨by simpa using set_blk (set_blk h2 0 (.int .i64 n)) 1 (.int .i32 x), ?_⟩
    exact ((nextB B1.out hb2).setCell (p := ⟨q, 0, none⟩) (by rw [HQ.out]; exact Nat.le_refl _) _).setCell (p := ⟨q, 1, none⟩) (by rw [HQ.out]; exact Nat.le_refl _) _
  rw [hn]
  clear hq0 hb hn hz
  by_cases h0 : z = 0
  · subst h0
    rw [if_pos rfl] at hx
    rw [hx]
    clear hx
    unfold insV
    go_enter Try.func26, Try.ntmps26
    go_wp2_with fail
    refine (HA.out _).mono ?_
    rintro e w2 ⟨rfl, rfl⟩
    go_wp2_with fail
    refine (IN.out 0 _ (by unfold I32; omega)).mono ?_
    rintro e w2 ⟨rfl, hb2⟩
    obtain ⟨s1, s2⟩ := STQ.out 0 w2 hb2
    have h2 := (hb2.block q hs1).trans HQ0.out
    have c0 : w2.cell? ⟨q, 0, none⟩ = some (.int .i64 0) := cell_blk h2 0
    have c1 : w2.cell? ⟨q, 1, none⟩ = some (.int .i32 0) := cell_blk h2 1
    have f0 : w2.frozen? ⟨q, 0, none⟩ = false := frozen_blk h2 0
    have f1 : w2.frozen? ⟨q, 1, none⟩ = false := frozen_blk h2 1
    have S1 := Lib.hid s1; have S2 := Lib.hid s2
    clear h2 hb2 s1 s2 hw1 hq en
    go_wp2_with fail
    try simp only [Exit.inBlock, Exit.then]
    refine ret_instr rfl rfl rfl S1.out ?_
    exact ⟨rfl, S2.out⟩
  · have hz2 : (z == 0) = false := by simpa using h0
    rw [if_neg h0] at hx
    obtain ⟨m, hm⟩ : ∃ m, a % 12 = m := ⟨_, rfl⟩
    have em : (a : Int) % 12 = (m : Int) := by omega
    rw [hm] at hx
    rw [hx]
    have hm2 : m < 12 := by omega
    clear hx hm
    unfold insV
    go_enter Try.func26, Try.ntmps26
    go_wp2_with fail
    refine (HA.out _).mono ?_
    rintro e w2 ⟨rfl, rfl⟩
    go_wp2_with fail
    refine (IN.out m _ (by unfold I32; omega)).mono ?_
    rintro e w2 ⟨rfl, hb2⟩
    obtain ⟨s1, s2⟩ := STQ.out m w2 hb2
    have h2 := (hb2.block q hs1).trans HQ0.out
    have c0 : w2.cell? ⟨q, 0, none⟩ = some (.int .i64 0) := cell_blk h2 0
    have c1 : w2.cell? ⟨q, 1, none⟩ = some (.int .i32 0) := cell_blk h2 1
    have f0 : w2.frozen? ⟨q, 0, none⟩ = false := frozen_blk h2 0
    have f1 : w2.frozen? ⟨q, 1, none⟩ = false := frozen_blk h2 1
    have S1 := Lib.hid s1; have S2 := Lib.hid s2
    clear h2 hb2 s1 s2 hw1 hq en em
    go_wp2_with fail
    try simp only [Exit.inBlock, Exit.then]
    refine ret_instr rfl rfl rfl S1.out ?_
    exact ⟨rfl, S2.out⟩

end Go.Proofs.Ytjnlgmjcabbaaaa
