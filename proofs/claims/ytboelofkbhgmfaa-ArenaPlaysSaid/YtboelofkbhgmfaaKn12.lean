/- Law 12's known. -/
import Derived.Test.YtboelofkbhgmfaaAre12
namespace Go.Proofs.Ytboelofkbhgmfaa
set_option maxRecDepth 100000
open Go.RowKit

theorem numv_new (w : World) (l : List Int) : NumV (w.alloc (.cells (i64s l).toArray 3)) (w.alloc (.cells (i64s l).toArray 3)).heap.size (.slice (some ⟨w.heap.size, 0, none⟩) l.length l.length) l :=
  ⟨_, l.length, rfl, Nat.le_refl _, (lies_new w (i64s l) 3).more (by simp)⟩

set_option maxRecDepth 100000 in
set_option maxHeartbeats 8000000 in
theorem known12_any (w : World) : Calls Try.prog 15 #[] w fun e w' => e = .returned (.bool true) ∧ Below w.heap.size w w' := by
  obtain ⟨w1, hw1⟩ : ∃ w1, w1 = w.alloc (.cells #[.int .i64 0, .int .i64 1] 3) := ⟨_, rfl⟩
  have B1 : Hid (Below w.heap.size w w1) := Lib.hid (by rw [hw1]; exact below_alloc w _)
  have HN := Lib.hid (arNew_any (.slice (some ⟨w.heap.size, 0, none⟩) 2 2) [0, 1] w1 (by rw [hw1]; exact numv_new w [0, 1]) (by decide))
  have HW1 := Lib.hid hw1
  clear hw1
  go_enter Try.func15, Try.ntmps15
  go_wp2_with fail
  rw [← HW1.out]
  with_reducible refine HN.out.mono ?_
  rintro e w2 ⟨a, rfl, hA, hb⟩
  have A2 : Hid (ArV w2 (fun b => w1.heap.size ≤ b ∧ b < w2.heap.size) a [0, 1] [[], []]) := Lib.hid hA
  have L2 : Hid (∀ i, (w1.heap.size ≤ i ∧ i < w2.heap.size) → w1.heap.size ≤ i) := Lib.hid (fun i h => h.1)
  have B2 := Lib.hid hb
  obtain ⟨S2, hS⟩ : ∃ S : Nat → Prop, S = (fun b => w1.heap.size ≤ b ∧ b < w2.heap.size) := ⟨_, rfl⟩
  have L2 : Hid (∀ i, S2 i → w1.heap.size ≤ i) := Lib.hid (by rw [hS]; exact fun i h => h.1)
  rw [← hS] at A2
  clear hS hA hb HN
  go_wp2_with fail
  have M1 := Lib.hid (arMake_any A2.out 0 0 5 (by decide))
  refine M1.out.mono ?_
  clear M1
  rintro e w3 ⟨rfl, S3, h3, t3⟩
  rw [show mkId [0, 1] ([[], []] : List (List RefX)) 0 = 0 from rfl, show mkB [0, 1] ([[], []] : List (List RefX)) 0 = false from rfl]
  have A3 : Hid (ArV w3 S3 a [0, 1] [[], []]) := Lib.hid h3
  have T3 := Lib.hid t3
  clear h3 t3
  go_wp2_with fail
  have M1 := Lib.hid (arMake_any A3.out 1 3 5 (by decide))
  refine M1.out.mono ?_
  clear M1
  rintro e w4 ⟨rfl, S4, h4, t4⟩
  rw [show mkId [0, 1] ([[], []] : List (List RefX)) 1 = 65536 from rfl, show mkB [0, 1] ([[], []] : List (List RefX)) 1 = true from rfl]
  have A4 : Hid (ArV w4 S4 a [0, 1] [[], [⟨3, 5⟩]]) := Lib.hid h4
  have T4 := Lib.hid (T3.out.trans t4)
  clear h4 t4 A3 T3
  go_wp2_with fail
  have M1 := Lib.hid (arMake_any A4.out 1 3 5 (by decide))
  refine M1.out.mono ?_
  clear M1
  rintro e w5 ⟨rfl, S5, h5, t5⟩
  rw [show mkId [0, 1] ([[], [⟨3, 5⟩]] : List (List RefX)) 1 = 0 from rfl, show mkB [0, 1] ([[], [⟨3, 5⟩]] : List (List RefX)) 1 = false from rfl]
  have A5 : Hid (ArV w5 S5 a [0, 1] [[], [⟨3, 5⟩]]) := Lib.hid h5
  have T5 := Lib.hid (T4.out.trans t5)
  clear h5 t5 A4 T4
  go_wp2_with fail
  have M1 := Lib.hid (arSet_any A5.out 65536 6 (by decide))
  refine M1.out.mono ?_
  clear M1
  rintro e w6 ⟨rfl, S6, h6, t6⟩
  rw [show isIn ([[], [⟨3, 5⟩]] : List (List RefX)) 65536 = true from rfl]
  have A6 : Hid (ArV w6 S6 a [0, 1] [[], [⟨3, 6⟩]]) := Lib.hid h6
  have T6 := Lib.hid (T5.out.trans t6)
  clear h6 t6 A5 T5
  go_wp2_with fail
  have M1 := Lib.hid (arGet_any A6.out 65536 (by decide))
  refine M1.out.mono ?_
  clear M1
  rintro e w7 ⟨rfl, b7⟩
  rw [show isIn ([[], [⟨3, 6⟩]] : List (List RefX)) 65536 = true from rfl, show refA (itmZ ([[], [⟨3, 6⟩]] : List (List RefX)) 65536 zR) = #[.int .i64 3, .int .i32 6] from rfl]
  have A7 := Lib.hid (A6.out.below b7)
  have T7 := Lib.hid (T6.out.trans (Stp.of_below b7 A6.out.lt))
  clear b7 A6 T6
  have C7 := Lib.hid (fun w' (hb : Below w7.heap.size w7 w') => arCount_any (A7.out.below hb) 1)
  have S7 := Lib.hid (fun w' (hb : Below w7.heap.size w7 w') => arSet_any (A7.out.below hb) 9 1 (by decide))
  unfold ArSt at S7
  rw [show cntZ ([[], [⟨3, 6⟩]] : List (List RefX)) 1 = 1 from rfl] at C7
  rw [show isIn ([[], [⟨3, 6⟩]] : List (List RefX)) 9 = false from rfl] at S7
  go_wp2_with fail
  refine (C7.out _ (by first | exact below_alloc _ _ | exact (below_alloc _ _).drew)).mono ?_
  rintro e w8 ⟨rfl, rfl⟩
  go_wp2_with fail
  refine (S7.out _ (by first | exact below_alloc _ _ | exact (below_alloc _ _).drew)).mono ?_
  rintro e w9 ⟨rfl, S9, h9, t9⟩
  have HF : Hid (Below w.heap.size w w9) := Lib.hid (by
    have hl := T7.out.low L2.out B2.out.size
    have b9 := ((Stp.of_below (below_alloc w7 _) A7.out.lt).trans t9).below hl (Nat.le_trans B2.out.size T7.out.frm.size)
    exact B1.out.trans ((B2.out.trans ((T7.out.below L2.out B2.out.size).trans b9)).mono B1.out.size))
  clear h9 t9
  go_wp2_with fail
  go_ret
  exact ⟨rfl, HF.out⟩

end Go.Proofs.Ytboelofkbhgmfaa
