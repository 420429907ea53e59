/- Law 8's few known answers. -/
import Derived.Test.YtjnlgmjcabbaaaaImg8
namespace Go.Proofs.Ytjnlgmjcabbaaaa
set_option maxRecDepth 100000
open Go.RowKit

theorem func_lit {f : CodeL} {v : Value} {fs ls gs a b : Int} (w : World) (hv : RowI w w.heap.size v f) (hlen : f.length ≤ 100000) (h : funcZ f fs ls gs = (a, b)) :
    Calls Try.prog 19 #[v, .int .i64 fs, .int .i64 ls, .int .i64 gs] w fun e w' => e = .returned (.tuple #[.int .i64 a, .int .i64 b]) ∧ Below w.heap.size w w' := by
  have := func_any f v fs ls gs w hv hlen
  rwa [h] at this
theorem depths_lit {f : CodeL} {v : Value} {D : List Int} (w : World) (hv : RowI w w.heap.size v f) (hlen : f.length ≤ 100000) (h : depthsZ f = D) :
    Calls Try.prog 22 #[v] w fun e w' => (∃ v, e = .returned v ∧ IntsV w' w'.heap.size v D) ∧ Below w.heap.size w w' := by
  have := depths_any f v w hv hlen
  rwa [h] at this
theorem i32_zero : I32 0 := ⟨by decide, by decide⟩

set_option maxRecDepth 100000 in
set_option maxHeartbeats 8000000 in
theorem known8_any (w : World) : Calls Try.prog 15 #[] w fun e w' => e = .returned (.bool true) ∧ Below w.heap.size w w' := by
  have R1 : Hid (RowI (w.alloc (.cells (flat [(1, 0), (4, 0), (25, 0)]).toArray 32)) _ _ [(1, 0), (4, 0), (25, 0)]) := Lib.hid (RowI.fresh w [(1, 0), (4, 0), (25, 0)] (by intro p hp; simp at hp; rcases hp with rfl | rfl | rfl <;> exact i32_zero))
  obtain ⟨w1, hw1⟩ : ∃ w1, w1 = w.alloc (.cells #[.int .i64 1, .int .i32 0, .int .i64 4, .int .i32 0, .int .i64 25, .int .i32 0] 32) := ⟨_, rfl⟩
  have J1 : Hid (RowI w1 w1.heap.size (.slice (some ⟨w.heap.size, 0, none⟩) 3 3) [(1, 0), (4, 0), (25, 0)]) := Lib.hid (by rw [hw1]; exact R1.out)
  have B1 := Lib.hid (show Below w.heap.size w w1 by rw [hw1]; exact below_alloc _ _)
  clear R1
  go_enter Try.func15, Try.ntmps15
  go_wp2_with fail
  rw [← hw1]
  clear hw1
  refine (func_lit (a := 1) (b := 24) w1 J1.out (by decide) (by decide +kernel)).mono ?_
  rintro e w2 ⟨rfl, hb⟩
  have B2 := Lib.hid (nextB B1.out hb); clear hb J1 B1
  obtain ⟨w3, hw3⟩ : ∃ w3, w3 = w2.alloc (.cells #[.int .i64 1, .int .i32 0, .int .i64 25, .int .i32 0] 32) := ⟨_, rfl⟩
  have J3 : Hid (RowI w3 w3.heap.size (.slice (some ⟨w2.heap.size, 0, none⟩) 2 2) [(1, 0), (25, 0)]) := Lib.hid (by rw [hw3]; exact RowI.fresh w2 [(1, 0), (25, 0)] (by intro p hp; simp at hp; rcases hp with rfl | rfl <;> exact i32_zero))
  have B3 := Lib.hid (show Below w.heap.size w w3 by rw [hw3]; exact nextB B2.out (below_alloc _ _))
  clear B2
  go_wp2_with fail
  rw [← hw3]
  clear hw3
  refine (func_lit (a := 0) (b := 0) w3 J3.out (by decide) (by decide +kernel)).mono ?_
  rintro e w4 ⟨rfl, hb⟩
  have B4 := Lib.hid (nextB B3.out hb); clear hb J3 B3
  obtain ⟨w5, hw5⟩ : ∃ w5, w5 = w4.alloc (.cells #[.int .i64 1, .int .i32 0, .int .i64 25, .int .i32 0, .int .i64 2, .int .i32 0] 32) := ⟨_, rfl⟩
  have J5 : Hid (RowI w5 w5.heap.size (.slice (some ⟨w4.heap.size, 0, none⟩) 3 3) [(1, 0), (25, 0), (2, 0)]) := Lib.hid (by rw [hw5]; exact RowI.fresh w4 [(1, 0), (25, 0), (2, 0)] (by intro p hp; simp at hp; rcases hp with rfl | rfl | rfl <;> exact i32_zero))
  have B5 := Lib.hid (show Below w.heap.size w w5 by rw [hw5]; exact nextB B4.out (below_alloc _ _))
  clear B4
  go_wp2_with fail
  rw [← hw5]
  clear hw5
  refine (depths_lit (D := [0, 1, -1]) w5 J5.out (by decide) (by decide +kernel)).mono ?_
  rintro e w6 ⟨⟨v, rfl, hI⟩, hb⟩
  have B6 := Lib.hid (nextB B5.out hb); clear hb J5 B5
  have HI := Lib.hid hI
  clear hI
  obtain ⟨A, c, rfl, _⟩ := HI.out
  obtain ⟨w7, hw7⟩ : ∃ w7, w7 = ((w6.alloc (.cells #[.int .i64 1, .int .i32 0, .int .i64 25, .int .i32 0] 32)).alloc (.cells #[.int .i64 25, .int .i32 0] 32)).alloc (.cells #[.slice (some ⟨w6.heap.size, 0, none⟩) 2 2, .slice (some ⟨w6.heap.size + 1, 0, none⟩) 1 1] 29) := ⟨_, rfl⟩
  have J7 : Hid (ImgV w7 w7.heap.size (.slice (some ⟨w6.heap.size + 1 + 1, 0, none⟩) 2 2) [[(1, 0), (25, 0)], [(25, 0)]]) := Lib.hid (by
    have r1 := RowI.fresh w6 [(1, 0), (25, 0)] (by intro p hp; simp at hp; rcases hp with rfl | rfl <;> exact i32_zero)
    obtain ⟨wa, hwa⟩ : ∃ wa, wa = w6.alloc (.cells #[.int .i64 1, .int .i32 0, .int .i64 25, .int .i32 0] 32) := ⟨_, rfl⟩
    have r1' : RowI wa wa.heap.size (.slice (some ⟨w6.heap.size, 0, none⟩) 2 2) [(1, 0), (25, 0)] := by rw [hwa]; exact r1
    have hsa : wa.heap.size = w6.heap.size + 1 := by rw [hwa]; simp
    have r2 := RowI.fresh wa [(25, 0)] (by intro p hp; simp at hp; rcases hp with rfl; exact i32_zero)
    obtain ⟨wb, hwb⟩ : ∃ wb, wb = wa.alloc (.cells #[.int .i64 25, .int .i32 0] 32) := ⟨_, rfl⟩
    have r2' : RowI wb wb.heap.size (.slice (some ⟨w6.heap.size + 1, 0, none⟩) 1 1) [(25, 0)] := by rw [hwb, ← hsa]; exact r2
    have r1'' : RowI wb wb.heap.size (.slice (some ⟨w6.heap.size, 0, none⟩) 2 2) [(1, 0), (25, 0)] := by rw [hwb]; exact r1'.later (below_alloc _ _)
    have hsb : wb.heap.size = w6.heap.size + 1 + 1 := by rw [hwb, ← hsa]; simp
    have hw7' : w7 = wb.alloc (.cells #[.slice (some ⟨w6.heap.size, 0, none⟩) 2 2, .slice (some ⟨w6.heap.size + 1, 0, none⟩) 1 1] 29) := by rw [hw7, hwb, hwa]
    have hbb := below_alloc wb (.cells #[.slice (some ⟨w6.heap.size, 0, none⟩) 2 2, .slice (some ⟨w6.heap.size + 1, 0, none⟩) 1 1] 29)
    rw [hw7', ← hsb]
    refine ⟨_, 2, [.slice (some ⟨w6.heap.size, 0, none⟩) 2 2, .slice (some ⟨w6.heap.size + 1, 0, none⟩) 1 1], rfl, rfl, (lies_new wb _ 29).more (by simp), ?_⟩
    intro k x f hx hf
    match k, hx, hf with
    | 0, hx, hf =>
      simp at hx hf; subst hx hf
      exact ⟨r1''.later hbb, by decide⟩
    | 1, hx, hf =>
      simp at hx hf; subst hx hf
      exact ⟨r2'.later hbb, by decide⟩
    | k + 2, hx, hf => simp at hx)
  have hb67 : Below w6.heap.size w6 w7 := by
    rw [hw7]
    exact ((below_alloc _ _).trans ((below_alloc _ _).mono (by simp))).trans ((below_alloc _ _).mono (by simp; omega))
  have B7 := Lib.hid (nextB B6.out hb67)
  have HI7 := Lib.hid (HI.out.later hb67)
  clear B6 hb67 HI
  go_wp2_with fail
  rw [← hw7]
  clear hw7
  have HIM : Hid (Calls Try.prog 24 #[.slice (some ⟨w6.heap.size + 1 + 1, 0, none⟩) 2 2, .int .i64 1, .int .i64 0] w7 fun e w' => e = .returned (.tuple #[.int .i64 1, .int .i64 0, .int .i64 24]) ∧ Below w7.heap.size w7 w') := Lib.hid (by
    have := image_any [[(1, 0), (25, 0)], [(25, 0)]] _ 1 0 w7 J7.out (by decide)
    rwa [show imageZ [[(1, 0), (25, 0)], [(25, 0)]] 1 0 = (1, 0, 24) from by decide +kernel] at this)
  refine HIM.out.mono ?_
  rintro e w8 ⟨rfl, hb⟩
  have B8 := Lib.hid (nextB B7.out hb)
  have HI8 := HI7.out.later hb
  obtain ⟨A', c', hA, hl⟩ := HI8
  have hAA : A = A' := by injection hA
  subst hAA
  obtain ⟨b, off, rfl, _, k1⟩ := lie_int hl (k := 1) (by decide)
  obtain ⟨b', off', e', _, k2⟩ := lie_int hl (k := 2) (by decide)
  injection e' with e'; injection e' with e1 e2; subst e1 e2
  have k1' : w8.cell? ⟨b, off + 1, none⟩ = some (.int .i64 1) := k1
  have k2' : w8.cell? ⟨b, off + 2, none⟩ = some (.int .i64 (-1)) := k2
  clear hb hl hA k1 k2 HI7 B7 J7 HIM
  go_wp2_with fail
  go_ret
  exact ⟨rfl, B8.out⟩

end Go.Proofs.Ytjnlgmjcabbaaaa
