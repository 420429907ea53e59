/- Law 13's known. -/
import Derived.Test.YtboelofkbhgmfaaAll13
namespace Go.Proofs.Ytboelofkbhgmfaa
set_option maxRecDepth 100000
open Go.RowKit

theorem numv_lit (w : World) (l : List Int) : NumV (w.alloc (.cells (i64s l).toArray 3)) (w.alloc (.cells (i64s l).toArray 3)).heap.size (.slice (some ⟨w.heap.size, 0, none⟩) l.length l.length) l :=
  ⟨_, l.length, rfl, Nat.le_refl _, (lies_new w (i64s l) 3).more (by simp)⟩
theorem TabF.row {w : World} {v : Value} {Ls : List (List FutX)} (h : TabF w v Ls) : ∃ b, v = .slice (some ⟨b, 0, none⟩) Ls.length Ls.length ∧ ∀ k (hk : k < Ls.length), ∃ A c, w.cell? ⟨b, k, none⟩ = some (.slice A Ls[k].length c) ∧ w.ownsRow 0 64 4 (.slice A Ls[k].length c) Ls[k].length (rowE futA Ls[k]) := by
  obtain ⟨b, vs, e, hb, hlen, hr⟩ := h
  refine ⟨b, e, fun k hk => ?_⟩
  have hkv : k < vs.length := by omega
  have ho := hr k vs[k] Ls[k] (List.getElem?_eq_getElem hkv) (List.getElem?_eq_getElem hk)
  have hc : w.cell? ⟨b, k, none⟩ = some vs[k] := by rw [cell_blk hb]; simp [hkv]
  rcases ho.2 with ⟨e1, e2⟩ | ⟨g, cap, cur, e1, _⟩
  · rw [e1] at hc ho
    exact ⟨none, 0, by rw [hc, e2], by rw [e2] at ho ⊢; exact ho⟩
  · rw [e1] at hc ho
    exact ⟨_, cap, hc, ho⟩
def xF : FutX := ⟨1, 1, 5, 0⟩

set_option maxRecDepth 100000 in
set_option maxHeartbeats 8000000 in
theorem known13_any (w : World) : Calls Try.prog 27 #[] w fun e w' => e = .returned (.bool true) ∧ Below w.heap.size w w' := by
  obtain ⟨w1, hw1⟩ : ∃ w1, w1 = w.alloc (.cells #[.int .i64 2] 3) := ⟨_, rfl⟩
  have B1 : Hid (Below w.heap.size w w1) := Lib.hid (by rw [hw1]; exact below_alloc w _)
  have HN := Lib.hid (fuNew_any (.slice (some ⟨w.heap.size, 0, none⟩) 1 1) [2] w1 (by rw [hw1]; exact numv_lit w [2]) (by decide))
  have HW1 := Lib.hid hw1
  clear hw1
  go_enter Try.func27, Try.ntmps27
  go_wp2_with fail
  rw [← HW1.out]
  with_reducible refine HN.out.mono ?_
  rintro e w2 ⟨a, rfl, hA, hb⟩
  have A2 : Hid (FuV w2 (fun b => w1.heap.size ≤ b ∧ b < w2.heap.size) a [2] [[]]) := Lib.hid hA
  have B2 := Lib.hid hb
  obtain ⟨S2, hS⟩ : ∃ S : Nat → Prop, S = (fun b => w1.heap.size ≤ b ∧ b < w2.heap.size) := ⟨_, rfl⟩
  have L2 : Hid (∀ i, S2 i → w1.heap.size ≤ i) := Lib.hid (by rw [hS]; exact fun i h => h.1)
  rw [← hS] at A2
  clear hS hA hb HN
  go_wp2_with fail
  have M1 := Lib.hid (fuMake_any A2.out 0 1 (by decide))
  refine M1.out.mono ?_
  clear M1
  rintro e w3 ⟨rfl, S3, h3, t3⟩
  rw [show mkId [2] ([[]] : List (List FutX)) 0 = 0 from rfl, show mkB [2] ([[]] : List (List FutX)) 0 = true from rfl]
  have A3 : Hid (FuV w3 S3 a [2] [[⟨1, 0, 0, 0⟩]]) := Lib.hid h3
  have T3 := Lib.hid t3
  clear h3 t3
  go_wp2_with fail
  have M1 := Lib.hid (fuKeep_any A3.out 0 5 (by decide))
  refine M1.out.mono ?_
  clear M1
  rintro e w4 ⟨rfl, S4, h4, t4⟩
  rw [show openB ([[⟨1, 0, 0, 0⟩]] : List (List FutX)) 0 = true from rfl]
  have A4 : Hid (FuV w4 S4 a [2] [[xF]]) := Lib.hid h4
  have T4 := Lib.hid (T3.out.trans t4)
  clear h4 t4 A3 T3
  go_wp2_with fail
  have M1 := Lib.hid (fuKeep_any A4.out 0 6 (by decide))
  refine M1.out.mono ?_
  clear M1
  rintro e w5 ⟨rfl, S5, h5, t5⟩
  rw [show openB ([[xF]] : List (List FutX)) 0 = false from rfl]
  have A5 : Hid (FuV w5 S5 a [2] [[xF]]) := Lib.hid h5
  have T5 := Lib.hid (T4.out.trans t5)
  clear h5 t5 A4 T4
  go_wp2_with fail
  have M1 := Lib.hid (fuBreak_any A5.out 0 7 (by decide))
  refine M1.out.mono ?_
  clear M1
  rintro e w6 ⟨rfl, S6, h6, t6⟩
  rw [show openB ([[xF]] : List (List FutX)) 0 = false from rfl]
  have A6 : Hid (FuV w6 S6 a [2] [[xF]]) := Lib.hid h6
  have T6 := Lib.hid (T5.out.trans t6)
  clear h6 t6 A5 T5
  go_wp2_with fail
  have M1 := Lib.hid (fuGet_any A6.out 0 (by decide))
  refine M1.out.mono ?_
  clear M1
  rintro e w7 ⟨rfl, b7⟩
  rw [show isIn ([[xF]] : List (List FutX)) 0 = true from rfl, show futA (itmZ ([[xF]] : List (List FutX)) 0 zF) = #[.int .i64 1, .int .i64 1, .int .i32 5, .int .i64 0] from rfl]
  have A7 := Lib.hid (A6.out.below b7)
  have T7 := Lib.hid (T6.out.trans (Stp.of_below b7 A6.out.lt))
  clear b7 A6 T6
  have C7 := Lib.hid (fun w' (hb : Below w7.heap.size w7 w') => fuCount_any (A7.out.below hb) 0)
  have L7 := Lib.hid (fun w' (hb : Below w7.heap.size w7 w') => fuAll_any (A7.out.below hb))
  rw [show cntZ ([[xF]] : List (List FutX)) 0 = 1 from rfl] at C7
  have HB7 : Hid (Below w.heap.size w w7) := Lib.hid (B1.out.trans ((B2.out.trans (T7.out.below L2.out B2.out.size)).mono B1.out.size))
  go_wp2_with fail
  refine (C7.out _ (by first | exact below_alloc _ _ | exact (below_alloc _ _).drew)).mono ?_
  rintro e w8 ⟨rfl, rfl⟩
  go_wp2_with fail
  refine (L7.out _ (by first | exact below_alloc _ _ | exact (below_alloc _ _).drew)).mono ?_
  rintro e w9 ⟨⟨v9, rfl, h9⟩, b9⟩
  obtain ⟨tb, rfl, _⟩ := h9.row
  have B9 : Hid (Below w7.heap.size w7 w9) := Lib.hid ((below_alloc w7 _).trans (b9.mono (by simp)))
  clear h9 b9
  go_wp2_with fail
  refine (L7.out _ B9.out).mono ?_
  rintro e w10 ⟨⟨v10, rfl, h10⟩, b10⟩
  obtain ⟨tb2, rfl, hr⟩ := h10.row
  obtain ⟨Ar, cr, hc, _⟩ := hr 0 (by decide)
  have hc' : w10.cell? ⟨tb2, 0, none⟩ = some (.slice Ar 1 cr) := hc
  have HF : Hid (Below w.heap.size w w10) := Lib.hid ((HB7.out.trans (B9.out.mono HB7.out.size)).trans (b10.mono (Nat.le_trans HB7.out.size B9.out.size)))
  clear h10 hr hc b10
  go_wp2_with fail
  go_ret
  exact ⟨rfl, HF.out⟩

end Go.Proofs.Ytboelofkbhgmfaa
