/- The walks of known and edge. -/
import Derived.Test.YtcmjmbemlfcdjaaPut
import Derived.Lib.SlBytesConst
namespace Go.Proofs.Ytcmjmbemlfcdjaa
open Go.RowKit

theorem own_below {w w' : World} {base e : Nat} {v : Value} {n : Nat} {xs : List Value} (h : w.ownsRow base e 1 v n xs) (hb : Below w.heap.size w w') : w'.ownsRow base e 1 v n xs :=
  h.kept (row := none) ⟨hb.os, hb.tape, hb.output, hb.size, fun k hk _ => hb.block k hk⟩ (by cases hv : v.ownBlock <;> simp)

theorem Rd.below {w w' : World} {B g t : Nat} {st : RS} (h : Rd w B g t st) (hb : Below w.heap.size w w') : Rd w' B g t st :=
  h.keep (row := none) ⟨hb.os, hb.tape, hb.output, hb.size, fun k hk _ => hb.block k hk⟩ (by simp) (fun k hk => by cases hk)

theorem lies_mark (w : World) (cs : List Value) (t : Nat) (m : Nat × Nat) : Lies (w.alloc (.cells cs.toArray t m)) (w.heap.size + 1) (some ⟨w.heap.size, 0, none⟩) cs := fun _ =>
  ⟨w.heap.size, 0, rfl, Nat.lt_succ_self _, fun j u hu => by
    have h : (w.alloc (.cells cs.toArray t m)).heap[w.heap.size]? = some (.cells cs.toArray t m) := heap_alloc_new w _
    rw [cell_of_row _ _ _ _ _ _ h]; simpa using hu⟩

theorem enc300 : enc 300 = [130, 44] := by decide +kernel
theorem enc0 : enc 0 = [0] := by decide +kernel
theorem enc2 : enc 2 = [2] := by decide +kernel

theorem known1 : numR 300 ([130, 44, 0, 2, 97, 98, 128], 0) = (300, [0, 2, 97, 98, 128], 0) := by decide +kernel
theorem known2 : numR 9 ([0, 2, 97, 98, 128], 0) = (0, [2, 97, 98, 128], 0) := by decide +kernel
theorem known3 : lumpR 2 ([2, 97, 98, 128], 0) = ([97, 98], [128], 0) := by decide +kernel
theorem known4 : numR 9 ([128], 0) = (0, [], 20) := by decide +kernel

set_option maxHeartbeats 2000000 in
theorem known_any (w : World) : Calls Try.prog 7 #[] w fun e w' => e = .returned (.bool true) ∧ Below w.heap.size w w' := by
  have kc := fun (w : World) (C : Array Value) (n c : Nat) => Lib.run_convert_bytes_const (P := Try.prog) w 22 5 C n c Try.underlying22 Try.underlying5
  go_enter Try.func7, Try.ntmps7
  go_wp2_with fail
  refine (put_any (w.heap.size + 1) _ 2 2 [300, 0] _ rfl (by omega) (by intro x hx; simp at hx; omega) (by simp) (lies_new w [.int .u64 300, .int .u64 0] 29)).mono ?_
  rintro e w1 ⟨v1, rfl, ho1, hb1⟩
  have B1 : Below w.heap.size w w1 := (below_alloc w _).trans (hb1.mono (by simp))
  have O1 := Lib.hid (own_base (base' := w.heap.size) ho1 (by simp)); clear ho1
  have s1 := B1.size
  go_wp2_with fail
  refine (putLump_any (w1.heap.size + 1) _ 2 2 [97, 98] _ rfl (by omega) (by simp) (lies_mark w1 [.int .u8 97, .int .u8 98] 5 _)).mono ?_
  rintro e w2 ⟨v2, rfl, ho2, hb2⟩
  have B12 : Below w1.heap.size w1 w2 := (below_alloc w1 _).trans (hb2.mono (by simp))
  have B2 := B1.trans (B12.mono s1)
  have O12 := Lib.hid (own_below O1.out B12)
  have s2 := B2.size
  obtain ⟨A2, c2, rfl, hn2, hm2, _, hl2, _⟩ := Lies.of_own ho2
  rw [show (enc 2 ++ [97, 98]) = [2, 97, 98] from by rw [enc2]; rfl] at *
  simp only [encs, List.flatMap_cons, List.flatMap_nil, enc300, enc0, List.append_nil, List.cons_append, List.nil_append, List.length_cons, List.length_nil] at *
  have L2 := Lib.hid hl2; clear hl2 ho2
  clear hb1 hb2
  go_wp2_with (at_builtin; go_must (refine wpList_append_lies rfl _ _ rfl w.heap.size v1 _ _ rfl O12.out w2.heap.size A2 3 c2 [2, 97, 98] rfl rfl L2.out ?c1 ?c2 ?_))
  case c1 => omega
  case c2 => omega
  intro v3 w3 ho3 hb3
  have B3 := B2.trans hb3
  have s3 := B3.size
  have O3 := Lib.hid ((show w3.ownsRow w.heap.size 5 1 v3 6 (u8s [130, 44, 0, 2, 97, 98]) from ho3).alloc (.cells #[.int .u8 128] 5)); clear ho3
  go_wp2_with (at_builtin; go_must (refine wpList_append_lies rfl _ _ rfl w.heap.size v3 _ _ rfl O3.out (w3.heap.size + 1) _ 1 1 [128] rfl rfl (lies_new w3 [.int .u8 128] 5) ?c1 ?c2 ?_))
  case c1 => omega
  case c2 => simp; omega
  intro v4 w4 ho4 hb4
  have B4 := B3.trans (((below_alloc w3 (.cells #[.int .u8 128] 5)).mono s3).trans hb4)
  have s4 := B4.size
  obtain ⟨A4, c4, rfl, hn4, hm4, _, hl4, _⟩ := Lies.of_own ho4
  have L4 := Lib.hid (show Lies w4 w4.heap.size A4 (u8s [130, 44, 0, 2, 97, 98, 128]) from hl4); clear hl4 ho4
  go_wp2_with (go_at_call 13; go_must (refine (new_any w4.heap.size A4 c4 [130, 44, 0, 2, 97, 98, 128] w4 (by decide) (Nat.le_refl _) L4.out (by intro u hu; simp at hu; omega)).mono ?_); rintro e w5 ⟨g, rfl, hg5, R5, hb5⟩)
  have B5 := B4.trans (hb5.mono s4)
  have s5 := B5.size
  have G5 := Lib.hid R5; clear R5
  refine (num_int g g _ 300 w5 (by omega) (by omega) G5.out).mono ?_
  rw [show (300 : Int).toNat = 300 from rfl, known1]
  rintro e w6 ⟨rfl, R6, g6⟩
  have B6 := B5.trans (below_of_grown g6 (by omega) s5)
  have s6 := B6.size
  have G6 := Lib.hid R6; clear R6
  go_wp2_with fail
  refine (num_int g g _ 9 w6 (by omega) (by omega) G6.out).mono ?_
  rw [show (9 : Int).toNat = 9 from rfl, known2]
  rintro e w7 ⟨rfl, R7, g7⟩
  have B7 := B6.trans (below_of_grown g7 (by omega) s6)
  have s7 := B7.size
  have G7 := Lib.hid R7; clear R7
  go_wp2_with fail
  refine (lump_any g g _ 2 w7 (by omega) (by simp) G7.out).mono ?_
  rw [known3]
  rintro e w8 ⟨v8, rfl, ho8, R8, g8⟩
  have B8 := B7.trans (below_of_grown g8 (by omega) s7)
  have s8 := B8.size
  have G8 := Lib.hid R8; clear R8
  have hg7 := G7.out.lt
  have O8 := Lib.hid ho8; clear ho8
  go_wp2_with fail
  refine (left_any g g _ w8 G8.out).mono ?_
  rintro e w' ⟨rfl, rfl⟩
  go_wp2_with fail
  refine (num_int g g _ 9 w8 (by omega) (by omega) G8.out).mono ?_
  rw [show (9 : Int).toNat = 9 from rfl, known4]
  rintro e w9 ⟨rfl, R9, g9⟩
  have B9 := B8.trans (below_of_grown g9 (by omega) s8)
  have s9 := B9.size
  have G9 := Lib.hid R9; clear R9
  go_wp2_with fail
  refine (put_any (w9.heap.size + 1) _ 1 1 [300] _ rfl (by omega) (by intro x hx; simp at hx; omega) (by simp) (lies_new w9 [.int .u64 300] 29)).mono ?_
  rintro e w10 ⟨v10, rfl, ho10, hb10⟩
  have B10' : Below w9.heap.size w9 w10 := (below_alloc w9 _).trans (hb10.mono (by simp))
  have B10 := B9.trans (B10'.mono s9)
  have s10 := B10.size
  have G10 := Lib.hid (G9.out.below B10')
  obtain ⟨A10, c10, rfl, hn10, hm10, _, hl10, _⟩ := Lies.of_own ho10
  have o8 : w10.ownsRow w7.heap.size 5 1 v8 2 (u8s [97, 98]) := own_below (O8.out.kept g9 (.inr (fun e => by have := (O8.out.lt g e).1; omega))) B10'
  obtain ⟨A8, c8, rfl, _, _, _, hl8, _⟩ := Lies.of_own o8
  have k10 := conv_bytes (n := 2) rfl (show Lies w10 w10.heap.size A10 (u8s [130, 44]) from by simpa [encs, enc300] using hl10) c10
  have k8 := conv_bytes (n := 2) rfl hl8 c8
  rw [show strOfNums [130, 44] = ⟨#[130, 44]⟩ from rfl] at k10
  rw [show strOfNums [97, 98] = ⟨#[97, 98]⟩ from rfl] at k8
  have el : (encs [300]).length = 2 := by simp [encs, enc300]
  clear hl8 hl10 o8
  go_wp2_with fail
  refine (err_any g g _ w10 G10.out).mono ?_
  rintro e w' ⟨rfl, rfl⟩
  go_wp2_with fail
  refine (left_any g g _ w10 G10.out).mono ?_
  rintro e w' ⟨rfl, rfl⟩
  go_wp2_with fail
  go_ret
  exact ⟨rfl, B10⟩

/-- The number that edge picks. -/
def edgeN (n : Nat) (k : Nat) : Nat :=
  [n, n / 2 ^ 32, n / 2 ^ 57, 0, 1, 127, 128, 16383, 16384, 9223372036854775807, 9223372036854775808, 18446744073709551615].getD (k % 12) 0

def edgeCells (n : Nat) : Array Value :=
  #[Value.int .u64 n, Value.int .u64 ((n : Int) / 4294967296), Value.int .u64 ((n : Int) / 144115188075855872), Value.int .u64 0, Value.int .u64 1, Value.int .u64 127, Value.int .u64 128,
    Value.int .u64 16383, Value.int .u64 16384, Value.int .u64 9223372036854775807, Value.int .u64 9223372036854775808, Value.int .u64 18446744073709551615]

theorem edgeCells_get (n k : Nat) : (edgeCells n)[k % 12]? = some (.int .u64 (edgeN n k)) := by
  have h : k % 12 < 12 := by omega
  unfold edgeCells edgeN
  generalize k % 12 = i at *
  match i, h with
  | 0, _ => rfl
  | 1, _ => rfl
  | 2, _ => rfl
  | 3, _ => rfl
  | 4, _ => rfl
  | 5, _ => rfl
  | 6, _ => rfl
  | 7, _ => rfl
  | 8, _ => rfl
  | 9, _ => rfl
  | 10, _ => rfl
  | 11, _ => rfl

set_option maxHeartbeats 1000000 in
theorem edge_any (n k : Nat) (w : World) (_hn : n ≤ 18446744073709551615) (hk : k ≤ 255) :
    Calls Try.prog 12 #[.int .u64 n, .int .u8 k] w fun e w' => e = .returned (.int .u64 (edgeN n k)) ∧ Below w.heap.size w w' := by
  have hc := edgeCells_get n k
  unfold edgeCells at hc
  have hc2 : ((w.alloc (.cells (edgeCells n) 29)).cell? ⟨w.heap.size, k % 12, none⟩) = some (.int .u64 (edgeN n k)) := by
    have h : (w.alloc (.cells (edgeCells n) 29)).heap[w.heap.size]? = some (.cells (edgeCells n) 29 (0, 0)) := heap_alloc_new w _
    rw [cell_blk h]; exact edgeCells_get n k
  unfold edgeCells at hc2
  generalize (edgeN n k : Int) = y at *
  go_enter Try.func12, Try.ntmps12
  go_wp2_with fail
  go_ret
  exact ⟨rfl, below_alloc _ _⟩

theorem edgeN_le (n k : Nat) (hn : n ≤ 18446744073709551615) : edgeN n k ≤ 18446744073709551615 := by
  have h : k % 12 < 12 := by omega
  unfold edgeN
  generalize k % 12 = i at *
  match i, h with
  | 0, _ => exact hn
  | 1, _ => show n / 2 ^ 32 ≤ _; omega
  | 2, _ => show n / 2 ^ 57 ≤ _; omega
  | 3, _ => simp
  | 4, _ => simp
  | 5, _ => simp
  | 6, _ => simp
  | 7, _ => simp
  | 8, _ => simp
  | 9, _ => simp
  | 10, _ => simp
  | 11, _ => simp

end Go.Proofs.Ytcmjmbemlfcdjaa
