/- Law 10's few known answers. (Written by gen/mkknown10.py.) -/
import Derived.Test.YtjnlgmjcabbaaaaGo10
import Derived.Test.YtjnlgmjcabbaaaaSame10
namespace Go.Proofs.Ytjnlgmjcabbaaaa
set_option maxRecDepth 100000
open Go.RowKit

theorem ImgV.nil (w : World) (B : Nat) : ImgV w B (.slice none 0 0) [] := ⟨none, 0, [], rfl, rfl, Lies.nil, fun k x f h => by simp at h⟩
/-- An image of one function that has just been made. -/
theorem ImgV.one {w : World} {x : Value} {f : CodeL} (h : RowI w w.heap.size x f) (hl : f.length ≤ 100000) (ty : Nat) :
    ImgV (w.alloc (.cells #[x] ty)) (w.alloc (.cells #[x] ty)).heap.size (.slice (some ⟨w.heap.size, 0, none⟩) 1 1) [f] := by
  refine ⟨_, 1, [x], rfl, rfl, (lies_new w [x] ty).more (by simp), fun k y g hy hg => ?_⟩
  match k with
  | 0 =>
    obtain rfl : x = y := by simpa using hy
    obtain rfl : f = g := by simpa using hg
    exact ⟨h.later (below_alloc _ _), hl⟩
  | k + 1 => simp at hy
theorem step_lit (t : TK) (s : Value) (I : List CodeL) (v : Value) (w : World) (z : TK) (k a c : Int) (h : stepZ t I = (z, k, a, c)) (hs : I32V w w.heap.size s t.st) (hn : t.st.length ≤ 100000) (hr : ∀ y ∈ t.st, -2147483648 ≤ y ∧ y ≤ 2147483647) (hv : ImgV w w.heap.size v I) :
    Calls Try.prog 40 #[taskV t s, v] w (TO w z k a c) := by
  have := step_any t s I v w hs hn hr hv
  rwa [h] at this
theorem Own32.shapeN {w : World} {base : Nat} {v : Value} {l : List Int} (h : Own32 w base v l) : ∃ A c, v = .slice A l.length c := by
  obtain ⟨A, c, e, _⟩ := h.v; exact ⟨A, c, e⟩
def kt0 : TK := ⟨7, 0, 0, [], 3, 0, 0, 0, 1, 2, 0, 1⟩
def kt1 : TK := ⟨7, 0, 1, [4], 3, 0, 0, 0, 1, 2, 0, 1⟩
def ktc : TK := ⟨9, 1, 0, [], 5, 0, 0, 0, 1, 1, 0, 1⟩
def ktd : TK := ⟨7, 0, 2, [6, 7], 3, 0, 0, 0, 1, 2, 0, 1⟩
def kI : List CodeL := [[(1, 4), (25, 0)]]
theorem ks1 : stepZ kt0 kI = (kt1, 1, 0, 0) := by kernel_rfl
theorem ks2 : stepZ kt1 kI = (kt1, 2, 4, 0) := by kernel_rfl
theorem ks3 : stepZ kt0 [] = (kt0, 3, 0, 24) := by kernel_rfl
theorem kcz : childZ kt0 9 1 5 1 = ktc := by kernel_rfl
theorem kdz : dropZ kt1 1 [6, 7] = ktd := by kernel_rfl

set_option maxRecDepth 100000 in
set_option maxHeartbeats 16000000 in
theorem known10_any (w : World) : Calls Try.prog 37 #[] w fun e w' => e = .returned (.bool true) ∧ Below w.heap.size w w' := by
  have hI : ∀ p ∈ [((1 : Int), (4 : Int)), (25, 0)], I32 p.2 := by
    intro p hp; simp at hp; rcases hp with rfl | rfl <;> exact ⟨by decide, by decide⟩
  have HI := Lib.hid (RowI.fresh w [((1 : Int), (4 : Int)), (25, 0)] hI)
  have HIM := Lib.hid (ImgV.one HI.out (by decide) 29)
  have hb2 := nextB (below_alloc w (.cells (flat [((1 : Int), (4 : Int)), (25, 0)]).toArray 32)) (below_alloc _ (.cells #[.slice (some ⟨w.heap.size, 0, none⟩) 2 2] 29))
  have HB2 := Lib.hid hb2
  obtain ⟨w2, h2⟩ : ∃ w2, w2 = (w.alloc (.cells (flat [((1 : Int), (4 : Int)), (25, 0)]).toArray 32)).alloc (.cells #[.slice (some ⟨w.heap.size, 0, none⟩) 2 2] 29) := ⟨_, rfl⟩
  have HM2 : Hid (ImgV w2 w2.heap.size (.slice (some ⟨w.heap.size + 1, 0, none⟩) 1 1) kI) := Lib.hid (by rw [h2]; unfold kI; simpa using HIM.out)
  rw [← h2] at HB2
  clear hI HI HIM hb2
  go_enter Try.func37, Try.ntmps37
  go_upto_region 2 with (fail)
  rw [show Code.wp Try.prog _ _ _ _ = Code.wp Try.prog _ _ _ w2 from by rw [h2]; rfl]
  clear h2
  go_wp2_with fail
  refine (new_any 7 0 3 1 2 0 1 w2).mono ?_
  rintro e w3 ⟨rfl, hb⟩
  have HM3 := Lib.hid (HM2.out.later hb); have B3 := Lib.hid (nextB HB2.out hb)
  clear hb HM2 HB2
  rw [show newZ 7 0 3 1 2 0 1 = kt0 from rfl]
  unfold taskV taskA nilV kt0
  go_upto_region 3 with (fail)
  obtain ⟨w4, hw4⟩ : ∃ w4, w4 = (w3).alloc (.cells (taskA kt0 nilV) 66) := ⟨_, rfl⟩
  rw [show Code.wp Try.prog _ _ _ _ = Code.wp Try.prog _ _ _ w4 from by rw [hw4]; rfl]
  have hbw4 : Below w3.heap.size w3 w4 := by rw [hw4]; exact below_alloc _ _
  have F2 : Hid (w4.heap[w3.heap.size]? = some (.cells (taskA kt0 nilV) 66 (0, 0))) := Lib.hid (by rw [hw4]; exact heapNew (by simp))
  obtain ⟨pF2, hpF2⟩ : ∃ p, p = w3.heap.size := ⟨_, rfl⟩
  rw [← hpF2] at F2
  rw [← hpF2]
  have HM4 := Lib.hid (HM3.out.later hbw4); have B4 := Lib.hid (nextB B3.out hbw4)
  clear hw4 hbw4 hpF2 HM3 B3
  go_wp2_with (first | (refine load_taskAt rfl _ rfl _ kt0 nilV rfl _ _ F2.out ?_) | fail)
  refine (step_lit kt0 nilV kI _ w4 kt1 1 0 0 ks1 (I32V.nil _ _) (by decide) (by simp [kt0]) HM4.out).mono ?_
  rintro e w5 ⟨⟨s1, rfl, ho⟩, hb⟩
  obtain ⟨A1, c1, rfl⟩ := ho.shapeN
  have F2' := Lib.hid (heapLater hb (Array.getElem?_eq_some_iff.1 F2.out).1 F2.out); clear F2; have F2 := F2'; clear F2'
  have O1 : Hid (Own32 w5 w4.heap.size (.slice A1 1 c1) [4]) := Lib.hid ho
  have HM5 := Lib.hid (HM4.out.later hb); have B5 := Lib.hid (nextB B4.out hb)
  clear ho hb HM4 B4
  rw [show kt1.st.length = 1 from rfl]
  unfold taskV taskA outV outA kt1
  go_upto_region 4 with (fail)
  obtain ⟨w6, hw6⟩ : ∃ w6, w6 = (((w5).alloc (.cells (taskA kt1 (.slice A1 1 c1)) 66))).alloc (.cells (outA 1 0 0) 71) := ⟨_, rfl⟩
  rw [show Code.wp Try.prog _ _ _ _ = Code.wp Try.prog _ _ _ w6 from by rw [hw6]; rfl]
  have hbw6 : Below w5.heap.size w5 w6 := by rw [hw6]; exact nextB (below_alloc _ _) (below_alloc _ _)
  have F3 : Hid (w6.heap[w5.heap.size]? = some (.cells (taskA kt1 (.slice A1 1 c1)) 66 (0, 0))) := Lib.hid (by rw [hw6]; exact heapOld (heapNew (by simp)))
  obtain ⟨pF3, hpF3⟩ : ∃ p, p = w5.heap.size := ⟨_, rfl⟩
  rw [← hpF3] at F3
  have F4 : Hid (w6.heap[w5.heap.size + 1]? = some (.cells (outA 1 0 0) 71 (0, 0))) := Lib.hid (by rw [hw6]; exact heapNew (by simp))
  obtain ⟨pF4, hpF4⟩ : ∃ p, p = w5.heap.size + 1 := ⟨_, rfl⟩
  rw [← hpF4] at F4
  rw [← hpF4, ← hpF3]
  have F2' := Lib.hid (heapLater hbw6 (Array.getElem?_eq_some_iff.1 F2.out).1 F2.out); clear F2; have F2 := F2'; clear F2'
  have HM6 := Lib.hid (HM5.out.later hbw6); have B6 := Lib.hid (nextB B5.out hbw6); have O2 := Lib.hid (O1.out.below hbw6)
  clear hw6 hbw6 hpF3 hpF4 HM5 B5 O1
  go_wp2_with (first | (refine load_taskAt rfl _ rfl _ kt1 (.slice A1 1 c1) rfl _ _ F3.out ?_) | fail)
  refine (step_lit kt1 (.slice A1 1 c1) kI _ w6 kt1 2 4 0 ks2 O2.out.v (by decide) (by simp [kt1]) HM6.out).mono ?_
  rintro e w7 ⟨⟨s2, rfl, ho⟩, hb⟩
  obtain ⟨A2, c2, rfl⟩ := ho.shapeN
  have F2' := Lib.hid (heapLater hb (Array.getElem?_eq_some_iff.1 F2.out).1 F2.out); clear F2; have F2 := F2'; clear F2'
  have F3' := Lib.hid (heapLater hb (Array.getElem?_eq_some_iff.1 F3.out).1 F3.out); clear F3; have F3 := F3'; clear F3'
  have F4' := Lib.hid (heapLater hb (Array.getElem?_eq_some_iff.1 F4.out).1 F4.out); clear F4; have F4 := F4'; clear F4'
  have P1 : Hid (Own32 w7 w6.heap.size (.slice A2 1 c2) [4]) := Lib.hid ho
  have B7 := Lib.hid (nextB B6.out hb); have O3 := Lib.hid (O2.out.below hb)
  clear ho hb HM6 B6 O2
  rw [show kt1.st.length = 1 from rfl]
  unfold taskV taskA outV outA kt1
  go_upto_region 5 with (fail)
  obtain ⟨w8, hw8⟩ : ∃ w8, w8 = (((w7).alloc (.cells (taskA kt1 (.slice A2 1 c2)) 66))).alloc (.cells (outA 2 4 0) 71) := ⟨_, rfl⟩
  rw [show Code.wp Try.prog _ _ _ _ = Code.wp Try.prog _ _ _ w8 from by rw [hw8]; rfl]
  have hbw8 : Below w7.heap.size w7 w8 := by rw [hw8]; exact nextB (below_alloc _ _) (below_alloc _ _)
  have F5 : Hid (w8.heap[w7.heap.size]? = some (.cells (taskA kt1 (.slice A2 1 c2)) 66 (0, 0))) := Lib.hid (by rw [hw8]; exact heapOld (heapNew (by simp)))
  obtain ⟨pF5, hpF5⟩ : ∃ p, p = w7.heap.size := ⟨_, rfl⟩
  rw [← hpF5] at F5
  have F6 : Hid (w8.heap[w7.heap.size + 1]? = some (.cells (outA 2 4 0) 71 (0, 0))) := Lib.hid (by rw [hw8]; exact heapNew (by simp))
  obtain ⟨pF6, hpF6⟩ : ∃ p, p = w7.heap.size + 1 := ⟨_, rfl⟩
  rw [← hpF6] at F6
  rw [← hpF6, ← hpF5]
  have F2' := Lib.hid (heapLater hbw8 (Array.getElem?_eq_some_iff.1 F2.out).1 F2.out); clear F2; have F2 := F2'; clear F2'
  have F3' := Lib.hid (heapLater hbw8 (Array.getElem?_eq_some_iff.1 F3.out).1 F3.out); clear F3; have F3 := F3'; clear F3'
  have F4' := Lib.hid (heapLater hbw8 (Array.getElem?_eq_some_iff.1 F4.out).1 F4.out); clear F4; have F4 := F4'; clear F4'
  have B8 := Lib.hid (nextB B7.out hbw8); have O4 := Lib.hid (O3.out.below hbw8); have P2 := Lib.hid (P1.out.below hbw8)
  clear hw8 hbw8 hpF5 hpF6 B7 O3 P1
  go_wp2_with (first | (refine load_taskAt rfl _ rfl _ kt0 nilV rfl _ _ F2.out ?_) | fail)
  refine (step_lit kt0 nilV [] _ w8 kt0 3 0 24 ks3 (I32V.nil _ _) (by decide) (by simp [kt0]) (ImgV.nil _ _)).mono ?_
  rintro e w9 ⟨⟨s3, rfl, ho⟩, hb⟩
  obtain ⟨A3, c3, rfl⟩ := ho.shapeN
  have F2' := Lib.hid (heapLater hb (Array.getElem?_eq_some_iff.1 F2.out).1 F2.out); clear F2; have F2 := F2'; clear F2'
  have F3' := Lib.hid (heapLater hb (Array.getElem?_eq_some_iff.1 F3.out).1 F3.out); clear F3; have F3 := F3'; clear F3'
  have F4' := Lib.hid (heapLater hb (Array.getElem?_eq_some_iff.1 F4.out).1 F4.out); clear F4; have F4 := F4'; clear F4'
  have F5' := Lib.hid (heapLater hb (Array.getElem?_eq_some_iff.1 F5.out).1 F5.out); clear F5; have F5 := F5'; clear F5'
  have F6' := Lib.hid (heapLater hb (Array.getElem?_eq_some_iff.1 F6.out).1 F6.out); clear F6; have F6 := F6'; clear F6'
  have B9 := Lib.hid (nextB B8.out hb); have O5 := Lib.hid (O4.out.below hb); have P3 := Lib.hid (P2.out.below hb)
  clear ho hb B8 O4 P2
  rw [show kt0.st.length = 0 from rfl]
  unfold taskV taskA outV outA kt0
  go_upto_region 6 with (fail)
  obtain ⟨wa, hwa⟩ : ∃ wa, wa = (((w9).alloc (.cells (taskA kt0 (.slice A3 0 c3)) 66))).alloc (.cells (outA 3 0 24) 71) := ⟨_, rfl⟩
  rw [show Code.wp Try.prog _ _ _ _ = Code.wp Try.prog _ _ _ wa from by rw [hwa]; rfl]
  have hbwa : Below w9.heap.size w9 wa := by rw [hwa]; exact nextB (below_alloc _ _) (below_alloc _ _)
  have F7 : Hid (wa.heap[w9.heap.size]? = some (.cells (taskA kt0 (.slice A3 0 c3)) 66 (0, 0))) := Lib.hid (by rw [hwa]; exact heapOld (heapNew (by simp)))
  obtain ⟨pF7, hpF7⟩ : ∃ p, p = w9.heap.size := ⟨_, rfl⟩
  rw [← hpF7] at F7
  have F8 : Hid (wa.heap[w9.heap.size + 1]? = some (.cells (outA 3 0 24) 71 (0, 0))) := Lib.hid (by rw [hwa]; exact heapNew (by simp))
  obtain ⟨pF8, hpF8⟩ : ∃ p, p = w9.heap.size + 1 := ⟨_, rfl⟩
  rw [← hpF8] at F8
  rw [← hpF8, ← hpF7]
  have F2' := Lib.hid (heapLater hbwa (Array.getElem?_eq_some_iff.1 F2.out).1 F2.out); clear F2; have F2 := F2'; clear F2'
  have F3' := Lib.hid (heapLater hbwa (Array.getElem?_eq_some_iff.1 F3.out).1 F3.out); clear F3; have F3 := F3'; clear F3'
  have F4' := Lib.hid (heapLater hbwa (Array.getElem?_eq_some_iff.1 F4.out).1 F4.out); clear F4; have F4 := F4'; clear F4'
  have F5' := Lib.hid (heapLater hbwa (Array.getElem?_eq_some_iff.1 F5.out).1 F5.out); clear F5; have F5 := F5'; clear F5'
  have F6' := Lib.hid (heapLater hbwa (Array.getElem?_eq_some_iff.1 F6.out).1 F6.out); clear F6; have F6 := F6'; clear F6'
  have Ba := Lib.hid (nextB B9.out hbwa); have O6 := Lib.hid (O5.out.below hbwa); have P4 := Lib.hid (P3.out.below hbwa)
  clear hwa hbwa hpF7 hpF8 B9 O5 P3
  go_wp2_with (first | (refine load_taskAt rfl _ rfl _ kt0 nilV rfl _ _ F2.out ?_) | fail)
  refine (child_any kt0 nilV 9 1 5 1 wa).mono ?_
  rintro e wb ⟨rfl, hb⟩
  have F3' := Lib.hid (heapLater hb (Array.getElem?_eq_some_iff.1 F3.out).1 F3.out); clear F3; have F3 := F3'; clear F3'
  have F4' := Lib.hid (heapLater hb (Array.getElem?_eq_some_iff.1 F4.out).1 F4.out); clear F4; have F4 := F4'; clear F4'
  have F5' := Lib.hid (heapLater hb (Array.getElem?_eq_some_iff.1 F5.out).1 F5.out); clear F5; have F5 := F5'; clear F5'
  have F6' := Lib.hid (heapLater hb (Array.getElem?_eq_some_iff.1 F6.out).1 F6.out); clear F6; have F6 := F6'; clear F6'
  have F8' := Lib.hid (heapLater hb (Array.getElem?_eq_some_iff.1 F8.out).1 F8.out); clear F8; have F8 := F8'; clear F8'
  have Bb := Lib.hid (nextB Ba.out hb); have O7 := Lib.hid (O6.out.below hb); have P5 := Lib.hid (P4.out.below hb)
  clear hb Ba O6 P4 F2 F7
  rw [kcz]
  unfold taskV taskA nilV ktc
  go_upto_region 7 with (fail)
  obtain ⟨wc, hwc⟩ : ∃ wc, wc = (wb).alloc (.cells (taskA ktc nilV) 66) := ⟨_, rfl⟩
  rw [show Code.wp Try.prog _ _ _ _ = Code.wp Try.prog _ _ _ wc from by rw [hwc]; rfl]
  have hbwc : Below wb.heap.size wb wc := by rw [hwc]; exact below_alloc _ _
  have F9 : Hid (wc.heap[wb.heap.size]? = some (.cells (taskA ktc nilV) 66 (0, 0))) := Lib.hid (by rw [hwc]; exact heapNew (by simp))
  obtain ⟨pF9, hpF9⟩ : ∃ p, p = wb.heap.size := ⟨_, rfl⟩
  rw [← hpF9] at F9
  rw [← hpF9]
  have F3' := Lib.hid (heapLater hbwc (Array.getElem?_eq_some_iff.1 F3.out).1 F3.out); clear F3; have F3 := F3'; clear F3'
  have F4' := Lib.hid (heapLater hbwc (Array.getElem?_eq_some_iff.1 F4.out).1 F4.out); clear F4; have F4 := F4'; clear F4'
  have F5' := Lib.hid (heapLater hbwc (Array.getElem?_eq_some_iff.1 F5.out).1 F5.out); clear F5; have F5 := F5'; clear F5'
  have F6' := Lib.hid (heapLater hbwc (Array.getElem?_eq_some_iff.1 F6.out).1 F6.out); clear F6; have F6 := F6'; clear F6'
  have F8' := Lib.hid (heapLater hbwc (Array.getElem?_eq_some_iff.1 F8.out).1 F8.out); clear F8; have F8 := F8'; clear F8'
  have Bc := Lib.hid (nextB Bb.out hbwc); have O8 := Lib.hid (O7.out.below hbwc); have P6 := Lib.hid (P5.out.below hbwc)
  clear hwc hbwc hpF9 Bb O7 P5
  have BA := Lib.hid (below_alloc wc (.cells (i32s [6, 7]).toArray 21))
  go_wp2_with (first | (refine load_taskAt rfl _ rfl _ kt1 (.slice A1 1 c1) rfl _ _ F3.out ?_) | fail)
  refine (drop_any kt1 (.slice A1 1 c1) 1 _ [6, 7] _ ((O8.out.below BA.out).v) (I32V.fresh wc [6, 7]) (by decide) (by decide)).mono ?_
  rintro e we ⟨⟨s5, rfl, ho⟩, hb⟩
  have hbe := nextB BA.out hb
  rw [kdz] at ho ⊢
  obtain ⟨A5, c5, rfl⟩ := ho.shapeN
  have F3' := Lib.hid (heapLater hbe (Array.getElem?_eq_some_iff.1 F3.out).1 F3.out); clear F3; have F3 := F3'; clear F3'
  have F4' := Lib.hid (heapLater hbe (Array.getElem?_eq_some_iff.1 F4.out).1 F4.out); clear F4; have F4 := F4'; clear F4'
  have F5' := Lib.hid (heapLater hbe (Array.getElem?_eq_some_iff.1 F5.out).1 F5.out); clear F5; have F5 := F5'; clear F5'
  have F6' := Lib.hid (heapLater hbe (Array.getElem?_eq_some_iff.1 F6.out).1 F6.out); clear F6; have F6 := F6'; clear F6'
  have F8' := Lib.hid (heapLater hbe (Array.getElem?_eq_some_iff.1 F8.out).1 F8.out); clear F8; have F8 := F8'; clear F8'
  have F9' := Lib.hid (heapLater hbe (Array.getElem?_eq_some_iff.1 F9.out).1 F9.out); clear F9; have F9 := F9'; clear F9'
  have Be := Lib.hid (nextB Bc.out hbe); have O9 := Lib.hid (O8.out.below hbe); have P7 := Lib.hid (P6.out.below hbe)
  clear ho hb hbe Bc O8 P6 BA
  rw [show ktd.st.length = 2 from rfl]
  unfold taskV taskA ktd
  go_upto_region 8 with (fail)
  obtain ⟨wf, hwf⟩ : ∃ wf, wf = (we).alloc (.cells (taskA ktd (.slice A5 2 c5)) 66) := ⟨_, rfl⟩
  rw [show Code.wp Try.prog _ _ _ _ = Code.wp Try.prog _ _ _ wf from by rw [hwf]; rfl]
  have hbwf : Below we.heap.size we wf := by rw [hwf]; exact below_alloc _ _
  have Fd : Hid (wf.heap[we.heap.size]? = some (.cells (taskA ktd (.slice A5 2 c5)) 66 (0, 0))) := Lib.hid (by rw [hwf]; exact heapNew (by simp))
  obtain ⟨pFd, hpFd⟩ : ∃ p, p = we.heap.size := ⟨_, rfl⟩
  rw [← hpFd] at Fd
  rw [← hpFd]
  have F3' := Lib.hid (heapLater hbwf (Array.getElem?_eq_some_iff.1 F3.out).1 F3.out); clear F3; have F3 := F3'; clear F3'
  have F4' := Lib.hid (heapLater hbwf (Array.getElem?_eq_some_iff.1 F4.out).1 F4.out); clear F4; have F4 := F4'; clear F4'
  have F5' := Lib.hid (heapLater hbwf (Array.getElem?_eq_some_iff.1 F5.out).1 F5.out); clear F5; have F5 := F5'; clear F5'
  have F6' := Lib.hid (heapLater hbwf (Array.getElem?_eq_some_iff.1 F6.out).1 F6.out); clear F6; have F6 := F6'; clear F6'
  have F8' := Lib.hid (heapLater hbwf (Array.getElem?_eq_some_iff.1 F8.out).1 F8.out); clear F8; have F8 := F8'; clear F8'
  have F9' := Lib.hid (heapLater hbwf (Array.getElem?_eq_some_iff.1 F9.out).1 F9.out); clear F9; have F9 := F9'; clear F9'
  have Bf := Lib.hid (nextB Be.out hbwf); have O10 := Lib.hid (O9.out.below hbwf); have P8 := Lib.hid (P7.out.below hbwf)
  clear hwf hbwf hpFd Be O9 P7
  have dF3_0 : wf.cell? ⟨pF3, 0, none⟩ = some (.int .i32 7) := cell_blk F3.out 0
  have dF3_1 : wf.cell? ⟨pF3, 1, none⟩ = some (.int .i64 0) := cell_blk F3.out 1
  have dF3_2 : wf.cell? ⟨pF3, 2, none⟩ = some (.int .i64 1) := cell_blk F3.out 2
  have dF3_3 : wf.cell? ⟨pF3, 3, none⟩ = some (.slice A1 1 c1) := cell_blk F3.out 3
  have dF3_4 : wf.cell? ⟨pF3, 4, none⟩ = some (.int .i32 3) := cell_blk F3.out 4
  have dF3_5 : wf.cell? ⟨pF3, 5, none⟩ = some (.int .i32 0) := cell_blk F3.out 5
  have dF3_6 : wf.cell? ⟨pF3, 6, none⟩ = some (.int .i32 0) := cell_blk F3.out 6
  have dF3_7 : wf.cell? ⟨pF3, 7, none⟩ = some (.int .i32 0) := cell_blk F3.out 7
  have dF3_8 : wf.cell? ⟨pF3, 8, none⟩ = some (.int .i64 1) := cell_blk F3.out 8
  have dF3_9 : wf.cell? ⟨pF3, 9, none⟩ = some (.int .i64 2) := cell_blk F3.out 9
  have dF3_10 : wf.cell? ⟨pF3, 10, none⟩ = some (.int .u32 0) := cell_blk F3.out 10
  have dF3_11 : wf.cell? ⟨pF3, 11, none⟩ = some (.int .i64 1) := cell_blk F3.out 11
  have dF4_0 : wf.cell? ⟨pF4, 0, none⟩ = some (.int .i64 1) := cell_blk F4.out 0
  have dF4_1 : wf.cell? ⟨pF4, 1, none⟩ = some (.int .i32 0) := cell_blk F4.out 1
  have dF4_2 : wf.cell? ⟨pF4, 2, none⟩ = some (.int .i64 0) := cell_blk F4.out 2
  have dF5_0 : wf.cell? ⟨pF5, 0, none⟩ = some (.int .i32 7) := cell_blk F5.out 0
  have dF5_1 : wf.cell? ⟨pF5, 1, none⟩ = some (.int .i64 0) := cell_blk F5.out 1
  have dF5_2 : wf.cell? ⟨pF5, 2, none⟩ = some (.int .i64 1) := cell_blk F5.out 2
  have dF5_3 : wf.cell? ⟨pF5, 3, none⟩ = some (.slice A2 1 c2) := cell_blk F5.out 3
  have dF5_4 : wf.cell? ⟨pF5, 4, none⟩ = some (.int .i32 3) := cell_blk F5.out 4
  have dF5_5 : wf.cell? ⟨pF5, 5, none⟩ = some (.int .i32 0) := cell_blk F5.out 5
  have dF5_6 : wf.cell? ⟨pF5, 6, none⟩ = some (.int .i32 0) := cell_blk F5.out 6
  have dF5_7 : wf.cell? ⟨pF5, 7, none⟩ = some (.int .i32 0) := cell_blk F5.out 7
  have dF5_8 : wf.cell? ⟨pF5, 8, none⟩ = some (.int .i64 1) := cell_blk F5.out 8
  have dF5_9 : wf.cell? ⟨pF5, 9, none⟩ = some (.int .i64 2) := cell_blk F5.out 9
  have dF5_10 : wf.cell? ⟨pF5, 10, none⟩ = some (.int .u32 0) := cell_blk F5.out 10
  have dF5_11 : wf.cell? ⟨pF5, 11, none⟩ = some (.int .i64 1) := cell_blk F5.out 11
  have dF6_0 : wf.cell? ⟨pF6, 0, none⟩ = some (.int .i64 2) := cell_blk F6.out 0
  have dF6_1 : wf.cell? ⟨pF6, 1, none⟩ = some (.int .i32 4) := cell_blk F6.out 1
  have dF6_2 : wf.cell? ⟨pF6, 2, none⟩ = some (.int .i64 0) := cell_blk F6.out 2
  have dF8_0 : wf.cell? ⟨pF8, 0, none⟩ = some (.int .i64 3) := cell_blk F8.out 0
  have dF8_1 : wf.cell? ⟨pF8, 1, none⟩ = some (.int .i32 0) := cell_blk F8.out 1
  have dF8_2 : wf.cell? ⟨pF8, 2, none⟩ = some (.int .i64 24) := cell_blk F8.out 2
  have dF9_0 : wf.cell? ⟨pF9, 0, none⟩ = some (.int .i32 9) := cell_blk F9.out 0
  have dF9_1 : wf.cell? ⟨pF9, 1, none⟩ = some (.int .i64 1) := cell_blk F9.out 1
  have dF9_2 : wf.cell? ⟨pF9, 2, none⟩ = some (.int .i64 0) := cell_blk F9.out 2
  have dF9_3 : wf.cell? ⟨pF9, 3, none⟩ = some (.slice none 0 0) := cell_blk F9.out 3
  have dF9_4 : wf.cell? ⟨pF9, 4, none⟩ = some (.int .i32 5) := cell_blk F9.out 4
  have dF9_5 : wf.cell? ⟨pF9, 5, none⟩ = some (.int .i32 0) := cell_blk F9.out 5
  have dF9_6 : wf.cell? ⟨pF9, 6, none⟩ = some (.int .i32 0) := cell_blk F9.out 6
  have dF9_7 : wf.cell? ⟨pF9, 7, none⟩ = some (.int .i32 0) := cell_blk F9.out 7
  have dF9_8 : wf.cell? ⟨pF9, 8, none⟩ = some (.int .i64 1) := cell_blk F9.out 8
  have dF9_9 : wf.cell? ⟨pF9, 9, none⟩ = some (.int .i64 1) := cell_blk F9.out 9
  have dF9_10 : wf.cell? ⟨pF9, 10, none⟩ = some (.int .u32 0) := cell_blk F9.out 10
  have dF9_11 : wf.cell? ⟨pF9, 11, none⟩ = some (.int .i64 1) := cell_blk F9.out 11
  have dFd_0 : wf.cell? ⟨pFd, 0, none⟩ = some (.int .i32 7) := cell_blk Fd.out 0
  have dFd_1 : wf.cell? ⟨pFd, 1, none⟩ = some (.int .i64 0) := cell_blk Fd.out 1
  have dFd_2 : wf.cell? ⟨pFd, 2, none⟩ = some (.int .i64 2) := cell_blk Fd.out 2
  have dFd_3 : wf.cell? ⟨pFd, 3, none⟩ = some (.slice A5 2 c5) := cell_blk Fd.out 3
  have dFd_4 : wf.cell? ⟨pFd, 4, none⟩ = some (.int .i32 3) := cell_blk Fd.out 4
  have dFd_5 : wf.cell? ⟨pFd, 5, none⟩ = some (.int .i32 0) := cell_blk Fd.out 5
  have dFd_6 : wf.cell? ⟨pFd, 6, none⟩ = some (.int .i32 0) := cell_blk Fd.out 6
  have dFd_7 : wf.cell? ⟨pFd, 7, none⟩ = some (.int .i32 0) := cell_blk Fd.out 7
  have dFd_8 : wf.cell? ⟨pFd, 8, none⟩ = some (.int .i64 1) := cell_blk Fd.out 8
  have dFd_9 : wf.cell? ⟨pFd, 9, none⟩ = some (.int .i64 2) := cell_blk Fd.out 9
  have dFd_10 : wf.cell? ⟨pFd, 10, none⟩ = some (.int .u32 0) := cell_blk Fd.out 10
  have dFd_11 : wf.cell? ⟨pFd, 11, none⟩ = some (.int .i64 1) := cell_blk Fd.out 11
  go_wp2_with fail
  refine (same_any kt1 kt1 (.slice A1 1 c1) (.slice A2 1 c2) wf O10.out.v P8.out.v (by decide)).mono ?_
  rintro e wg ⟨rfl, hb⟩
  rw [sameB_self]
  clear dF3_0 dF3_1 dF3_2 dF3_3 dF3_4 dF3_5 dF3_6 dF3_7 dF3_8 dF3_9 dF3_10 dF3_11 dF4_0 dF4_1 dF4_2 dF5_0 dF5_1 dF5_2 dF5_3 dF5_4 dF5_5 dF5_6 dF5_7 dF5_8 dF5_9 dF5_10 dF5_11 dF6_0 dF6_1 dF6_2 dF8_0 dF8_1 dF8_2 dF9_0 dF9_1 dF9_2 dF9_3 dF9_4 dF9_5 dF9_6 dF9_7 dF9_8 dF9_9 dF9_10 dF9_11 dFd_0 dFd_1 dFd_2 dFd_3 dFd_4 dFd_5 dFd_6 dFd_7 dFd_8 dFd_9 dFd_10 dFd_11
  have F3' := Lib.hid (heapLater hb (Array.getElem?_eq_some_iff.1 F3.out).1 F3.out); clear F3; have F3 := F3'; clear F3'
  have F4' := Lib.hid (heapLater hb (Array.getElem?_eq_some_iff.1 F4.out).1 F4.out); clear F4; have F4 := F4'; clear F4'
  have F5' := Lib.hid (heapLater hb (Array.getElem?_eq_some_iff.1 F5.out).1 F5.out); clear F5; have F5 := F5'; clear F5'
  have F6' := Lib.hid (heapLater hb (Array.getElem?_eq_some_iff.1 F6.out).1 F6.out); clear F6; have F6 := F6'; clear F6'
  have F8' := Lib.hid (heapLater hb (Array.getElem?_eq_some_iff.1 F8.out).1 F8.out); clear F8; have F8 := F8'; clear F8'
  have F9' := Lib.hid (heapLater hb (Array.getElem?_eq_some_iff.1 F9.out).1 F9.out); clear F9; have F9 := F9'; clear F9'
  have Fd' := Lib.hid (heapLater hb (Array.getElem?_eq_some_iff.1 Fd.out).1 Fd.out); clear Fd; have Fd := Fd'; clear Fd'
  have Bg := Lib.hid (nextB Bf.out hb)
  clear hb Bf
  have dF3_0 : wg.cell? ⟨pF3, 0, none⟩ = some (.int .i32 7) := cell_blk F3.out 0
  have dF3_1 : wg.cell? ⟨pF3, 1, none⟩ = some (.int .i64 0) := cell_blk F3.out 1
  have dF3_2 : wg.cell? ⟨pF3, 2, none⟩ = some (.int .i64 1) := cell_blk F3.out 2
  have dF3_3 : wg.cell? ⟨pF3, 3, none⟩ = some (.slice A1 1 c1) := cell_blk F3.out 3
  have dF3_4 : wg.cell? ⟨pF3, 4, none⟩ = some (.int .i32 3) := cell_blk F3.out 4
  have dF3_5 : wg.cell? ⟨pF3, 5, none⟩ = some (.int .i32 0) := cell_blk F3.out 5
  have dF3_6 : wg.cell? ⟨pF3, 6, none⟩ = some (.int .i32 0) := cell_blk F3.out 6
  have dF3_7 : wg.cell? ⟨pF3, 7, none⟩ = some (.int .i32 0) := cell_blk F3.out 7
  have dF3_8 : wg.cell? ⟨pF3, 8, none⟩ = some (.int .i64 1) := cell_blk F3.out 8
  have dF3_9 : wg.cell? ⟨pF3, 9, none⟩ = some (.int .i64 2) := cell_blk F3.out 9
  have dF3_10 : wg.cell? ⟨pF3, 10, none⟩ = some (.int .u32 0) := cell_blk F3.out 10
  have dF3_11 : wg.cell? ⟨pF3, 11, none⟩ = some (.int .i64 1) := cell_blk F3.out 11
  have dF4_0 : wg.cell? ⟨pF4, 0, none⟩ = some (.int .i64 1) := cell_blk F4.out 0
  have dF4_1 : wg.cell? ⟨pF4, 1, none⟩ = some (.int .i32 0) := cell_blk F4.out 1
  have dF4_2 : wg.cell? ⟨pF4, 2, none⟩ = some (.int .i64 0) := cell_blk F4.out 2
  have dF5_0 : wg.cell? ⟨pF5, 0, none⟩ = some (.int .i32 7) := cell_blk F5.out 0
  have dF5_1 : wg.cell? ⟨pF5, 1, none⟩ = some (.int .i64 0) := cell_blk F5.out 1
  have dF5_2 : wg.cell? ⟨pF5, 2, none⟩ = some (.int .i64 1) := cell_blk F5.out 2
  have dF5_3 : wg.cell? ⟨pF5, 3, none⟩ = some (.slice A2 1 c2) := cell_blk F5.out 3
  have dF5_4 : wg.cell? ⟨pF5, 4, none⟩ = some (.int .i32 3) := cell_blk F5.out 4
  have dF5_5 : wg.cell? ⟨pF5, 5, none⟩ = some (.int .i32 0) := cell_blk F5.out 5
  have dF5_6 : wg.cell? ⟨pF5, 6, none⟩ = some (.int .i32 0) := cell_blk F5.out 6
  have dF5_7 : wg.cell? ⟨pF5, 7, none⟩ = some (.int .i32 0) := cell_blk F5.out 7
  have dF5_8 : wg.cell? ⟨pF5, 8, none⟩ = some (.int .i64 1) := cell_blk F5.out 8
  have dF5_9 : wg.cell? ⟨pF5, 9, none⟩ = some (.int .i64 2) := cell_blk F5.out 9
  have dF5_10 : wg.cell? ⟨pF5, 10, none⟩ = some (.int .u32 0) := cell_blk F5.out 10
  have dF5_11 : wg.cell? ⟨pF5, 11, none⟩ = some (.int .i64 1) := cell_blk F5.out 11
  have dF6_0 : wg.cell? ⟨pF6, 0, none⟩ = some (.int .i64 2) := cell_blk F6.out 0
  have dF6_1 : wg.cell? ⟨pF6, 1, none⟩ = some (.int .i32 4) := cell_blk F6.out 1
  have dF6_2 : wg.cell? ⟨pF6, 2, none⟩ = some (.int .i64 0) := cell_blk F6.out 2
  have dF8_0 : wg.cell? ⟨pF8, 0, none⟩ = some (.int .i64 3) := cell_blk F8.out 0
  have dF8_1 : wg.cell? ⟨pF8, 1, none⟩ = some (.int .i32 0) := cell_blk F8.out 1
  have dF8_2 : wg.cell? ⟨pF8, 2, none⟩ = some (.int .i64 24) := cell_blk F8.out 2
  have dF9_0 : wg.cell? ⟨pF9, 0, none⟩ = some (.int .i32 9) := cell_blk F9.out 0
  have dF9_1 : wg.cell? ⟨pF9, 1, none⟩ = some (.int .i64 1) := cell_blk F9.out 1
  have dF9_2 : wg.cell? ⟨pF9, 2, none⟩ = some (.int .i64 0) := cell_blk F9.out 2
  have dF9_3 : wg.cell? ⟨pF9, 3, none⟩ = some (.slice none 0 0) := cell_blk F9.out 3
  have dF9_4 : wg.cell? ⟨pF9, 4, none⟩ = some (.int .i32 5) := cell_blk F9.out 4
  have dF9_5 : wg.cell? ⟨pF9, 5, none⟩ = some (.int .i32 0) := cell_blk F9.out 5
  have dF9_6 : wg.cell? ⟨pF9, 6, none⟩ = some (.int .i32 0) := cell_blk F9.out 6
  have dF9_7 : wg.cell? ⟨pF9, 7, none⟩ = some (.int .i32 0) := cell_blk F9.out 7
  have dF9_8 : wg.cell? ⟨pF9, 8, none⟩ = some (.int .i64 1) := cell_blk F9.out 8
  have dF9_9 : wg.cell? ⟨pF9, 9, none⟩ = some (.int .i64 1) := cell_blk F9.out 9
  have dF9_10 : wg.cell? ⟨pF9, 10, none⟩ = some (.int .u32 0) := cell_blk F9.out 10
  have dF9_11 : wg.cell? ⟨pF9, 11, none⟩ = some (.int .i64 1) := cell_blk F9.out 11
  have dFd_0 : wg.cell? ⟨pFd, 0, none⟩ = some (.int .i32 7) := cell_blk Fd.out 0
  have dFd_1 : wg.cell? ⟨pFd, 1, none⟩ = some (.int .i64 0) := cell_blk Fd.out 1
  have dFd_2 : wg.cell? ⟨pFd, 2, none⟩ = some (.int .i64 2) := cell_blk Fd.out 2
  have dFd_3 : wg.cell? ⟨pFd, 3, none⟩ = some (.slice A5 2 c5) := cell_blk Fd.out 3
  have dFd_4 : wg.cell? ⟨pFd, 4, none⟩ = some (.int .i32 3) := cell_blk Fd.out 4
  have dFd_5 : wg.cell? ⟨pFd, 5, none⟩ = some (.int .i32 0) := cell_blk Fd.out 5
  have dFd_6 : wg.cell? ⟨pFd, 6, none⟩ = some (.int .i32 0) := cell_blk Fd.out 6
  have dFd_7 : wg.cell? ⟨pFd, 7, none⟩ = some (.int .i32 0) := cell_blk Fd.out 7
  have dFd_8 : wg.cell? ⟨pFd, 8, none⟩ = some (.int .i64 1) := cell_blk Fd.out 8
  have dFd_9 : wg.cell? ⟨pFd, 9, none⟩ = some (.int .i64 2) := cell_blk Fd.out 9
  have dFd_10 : wg.cell? ⟨pFd, 10, none⟩ = some (.int .u32 0) := cell_blk Fd.out 10
  have dFd_11 : wg.cell? ⟨pFd, 11, none⟩ = some (.int .i64 1) := cell_blk Fd.out 11
  go_wp2_with fail
  go_ret
  exact ⟨rfl, Bg.out⟩

end Go.Proofs.Ytjnlgmjcabbaaaa
