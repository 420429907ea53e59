/- Law 15: known. -/
import Derived.Test.YtlmbjnegajiphaaRgv15
namespace Go.Proofs.Ytlmbjnegajiphaa
set_option maxRecDepth 100000
open Go.RowKit

theorem StkV.shape {w : World} {T : Nat → Prop} {t : TK} {s : Value} (h : StkV w T (t, s)) : ∃ A n c, s = .slice A n c := by obtain ⟨A, c, e, _⟩ := h; exact ⟨A, _, c, e⟩
set_option maxRecDepth 100000 in
set_option maxHeartbeats 8000000 in
theorem known15_any (w : World) : Calls Try.prog 35 #[] w fun e w' => e = .returned (.bool true) ∧ Below w.heap.size w w' := by
  go_enter Try.func35, Try.ntmps35
  go_wp2_with fail
  refine (vNew_any w 3).mono ?_
  rintro e w1 ⟨a, S, rfl, hr, hb, hlo⟩
  have H1 : Hid (RgV w1 S a 3 []) := Lib.hid hr
  have B1 := Lib.hid hb
  have L1 := Lib.hid hlo
  clear hr hb hlo
  go_wp2_with fail
  refine (vPush_nil (t := idT 1) H1.out rfl).mono ?_
  rintro e w2 ⟨S2, rfl, hr, hst⟩
  have H2 : Hid (RgV w2 S2 a 3 [idT 1]) := Lib.hid hr
  have T2 := Lib.hid hst
  rw [show decide (([] : List TK).length < 3) = true from rfl]
  clear hr hst
  go_wp2_with fail
  refine (vPush_nil (t := idT 2) H2.out rfl).mono ?_
  rintro e w3 ⟨S3, rfl, hr, hst⟩
  have H3 : Hid (RgV w3 S3 a 3 [idT 1, idT 2]) := Lib.hid hr
  have T3 := Lib.hid hst
  rw [show decide (([idT 1] : List TK).length < 3) = true from rfl]
  clear hr hst
  go_wp2_with fail
  refine (vPush_nil (t := idT 3) H3.out rfl).mono ?_
  rintro e w4 ⟨S4, rfl, hr, hst⟩
  have H4 : Hid (RgV w4 S4 a 3 [idT 1, idT 2, idT 3]) := Lib.hid hr
  have T4 := Lib.hid hst
  rw [show decide (([idT 1, idT 2] : List TK).length < 3) = true from rfl]
  clear hr hst
  go_wp2_with fail
  refine (vPush_nil (t := idT 4) H4.out rfl).mono ?_
  rintro e w5 ⟨S5, rfl, hr, hst⟩
  have H5 : Hid (RgV w5 S5 a 3 [idT 1, idT 2, idT 3]) := Lib.hid hr
  have T5 := Lib.hid hst
  rw [show decide (([idT 1, idT 2, idT 3] : List TK).length < 3) = false from rfl]
  clear hr hst
  go_wp2_with fail
  refine (vPop_any (M := [idT 1, idT 2]) (t := idT 3) H5.out).mono ?_
  rintro e w6 ⟨s6, T6, rfl, hs, hT, hr, hst⟩
  obtain ⟨A6, n6, c6, rfl⟩ := hs.shape
  have H6 := Lib.hid hr
  have ST6 := Lib.hid hst
  clear hr hst hs hT
  have HZ6 : Hid ((w6.alloc (.cells (taskA zT nilV) 51)).heap[w6.heap.size]? = some (.cells (taskA zT nilV) 51 (0, 0))) := Lib.hid (heap_alloc_new w6 _)
  obtain ⟨w7, hw7⟩ : ∃ x, x = (w6.alloc (.cells #[.int .i32 0, .int .i64 0, .int .i64 0, .slice none 0 0, .int .i32 0, .int .i32 0, .int .i32 0, .int .i32 0, .int .i64 0, .int .i64 0, .int .u32 0, .int .i64 0] 51)).setRow w6.heap.size (taskA (idT 3) (.slice A6 n6 c6)) := ⟨_, rfl⟩
  have HX6 : Hid (w7.heap[w6.heap.size]? = some (.cells (taskA (idT 3) (.slice A6 n6 c6)) 51 (0, 0))) := Lib.hid (by rw [hw7]; exact row_at HZ6.out _)
  have B6 : Hid (Below w6.heap.size w6 w7) := Lib.hid (by rw [hw7]; exact (below_alloc w6 _).trans (row_below (Nat.le_refl _)))
  have hs6 : w7.heap.size = w6.heap.size + 1 := by rw [hw7]; simp [World.setRow]
  have HW6 := Lib.hid hw7
  clear hw7
  have H7 := Lib.hid (H6.out.below B6.out)
  go_wp2_with (first | (refine store_task rfl _ _ rfl rfl w6.heap.size (idT 3) (.slice A6 n6 c6) rfl rfl _ _ _ HZ6.out rfl ?_; rw [← HW6.out]) | fail)
  refine (vSteal_any (M := [idT 2]) (t := idT 1) H7.out).mono ?_
  rintro e w8 ⟨s8, T8, rfl, hs, hT, hr, hst⟩
  obtain ⟨A8, n8, c8, rfl⟩ := hs.shape
  have H8 := Lib.hid hr
  have ST8 := Lib.hid hst
  clear hr hst hs hT
  have hz8 := ST8.out.frm.size
  have HZ8 : Hid ((w8.alloc (.cells (taskA zT nilV) 51)).heap[w8.heap.size]? = some (.cells (taskA zT nilV) 51 (0, 0))) := Lib.hid (heap_alloc_new w8 _)
  obtain ⟨w9, hw9⟩ : ∃ x, x = (w8.alloc (.cells #[.int .i32 0, .int .i64 0, .int .i64 0, .slice none 0 0, .int .i32 0, .int .i32 0, .int .i32 0, .int .i32 0, .int .i64 0, .int .i64 0, .int .u32 0, .int .i64 0] 51)).setRow w8.heap.size (taskA (idT 1) (.slice A8 n8 c8)) := ⟨_, rfl⟩
  have HX8 : Hid (w9.heap[w8.heap.size]? = some (.cells (taskA (idT 1) (.slice A8 n8 c8)) 51 (0, 0))) := Lib.hid (by rw [hw9]; exact row_at HZ8.out _)
  have B8 : Hid (Below w8.heap.size w8 w9) := Lib.hid (by rw [hw9]; exact (below_alloc w8 _).trans (row_below (Nat.le_refl _)))
  have hs8 : w9.heap.size = w8.heap.size + 1 := by rw [hw9]; simp [World.setRow]
  have HW8 := Lib.hid hw9
  clear hw9
  have H9 := Lib.hid (H8.out.below B8.out)
  have HX6 : Hid (w9.heap[w6.heap.size]? = some (.cells (taskA (idT 3) (.slice A6 n6 c6)) 51 (0, 0))) := Lib.hid ((B8.out.block _ (by omega)).trans ((ST8.out.frm.block _ (by omega) (fun e => by have := H6.out.lt _ e; omega)).trans HX6.out))
  have x6 : w9.cell? ⟨w6.heap.size, 0, none⟩ = some (.int .i32 3) := cell_blk HX6.out 0
  have x8 : w9.cell? ⟨w8.heap.size, 0, none⟩ = some (.int .i32 1) := cell_blk HX8.out 0
  have q3 : ((3 : Int) == 3) = true := rfl
  go_wp2_with (first | (refine store_task rfl _ _ rfl rfl w8.heap.size (idT 1) (.slice A8 n8 c8) rfl rfl _ _ _ HZ8.out rfl ?_; rw [← HW8.out]) | fail)
  refine (vLen_any H9.out).mono ?_
  rintro e _ ⟨rfl, rfl⟩
  go_wp2_with fail
  refine (vRoom_any H9.out).mono ?_
  rintro e _ ⟨rfl, rfl⟩
  go_wp2_with fail
  refine (vAll_any H9.out).mono ?_
  rintro e w10 ⟨v, L', T, rfl, ho, hl, _, _, hb10⟩
  obtain ⟨A10, c10, rfl⟩ := ho.shape
  have hlen : L'.length = 1 := by have := congrArg List.length hl; simpa using this
  rw [hlen]
  have H10 := Lib.hid (H9.out.below hb10)
  have B10 := Lib.hid hb10
  clear ho hl hb10 hlen
  go_wp2_with fail
  refine (vHalf_any H10.out).mono ?_
  rintro e w11 ⟨v, L2, T2', rfl, ho, hl, _, _, hr, hst⟩
  obtain ⟨A11, c11, rfl⟩ := ho.shape
  have hlen : L2.length = 1 := by have := congrArg List.length hl; simpa using this
  rw [hlen]
  have H11 : Hid (RgV w11 S5 a 3 []) := Lib.hid hr
  have ST11 := Lib.hid hst
  clear ho hl hst hr hlen
  go_wp2_with fail
  refine (vHalf_any H11.out).mono ?_
  rintro e w12 ⟨v, L3, T3', rfl, ho, hl, _, _, hr, hst⟩
  obtain ⟨A12, c12, rfl⟩ := ho.shape
  have hlen : L3.length = 0 := by have := congrArg List.length hl; simpa using this
  rw [hlen]
  have ST12 := Lib.hid hst
  clear ho hl hst hr hlen
  go_wp2_with fail
  go_ret
  refine ⟨rfl, ?_⟩
  have l2 := T2.out.low L1.out B1.out.size
  have b2 := B1.out.trans (T2.out.below L1.out B1.out.size)
  have l3 := T3.out.low l2 b2.size
  have b3 := b2.trans (T3.out.below l2 b2.size)
  have l4 := T4.out.low l3 b3.size
  have b4 := b3.trans (T4.out.below l3 b3.size)
  have l5 := T5.out.low l4 b4.size
  have b5 := b4.trans (T5.out.below l4 b4.size)
  have b6 := b5.trans (ST6.out.below l5 b5.size)
  have b7 := nextB b6 B6.out
  have b8 := b7.trans (ST8.out.below l5 b7.size)
  have b9 := nextB b8 B8.out
  have b10 := nextB b9 B10.out
  have b11 := b10.trans (ST11.out.below l5 b10.size)
  exact b11.trans (ST12.out.below l5 b11.size)

end Go.Proofs.Ytlmbjnegajiphaa
