/- Law 22's known. -/
import Derived.Test.YtmcphlklknfbmaaAt22
namespace Go.Proofs.Ytmcphlklknfbmaa
set_option maxRecDepth 100000
open Go.RowKit

def k2 : List RecX := [⟨0, 0, 1, -1, 3, 0⟩, ⟨0, 0, 2, 0, 3, 0⟩]
def k2B : List Int := putL k2
theorem k2_bytes : putL k2 = k2B := rfl
theorem k2_read : readQ k2B = (k2, 0) := by kernel_rfl
theorem k2_right : rightL k2 = true := by kernel_rfl
theorem k1_right : rightL [⟨1, 0, 0, 0, 0, 0⟩] = false := by kernel_rfl
theorem k0_read : readQ [] = ([], 20) := by kernel_rfl
theorem k2_of : ofL [2] k2 = [⟨0, 0, 2, 0, 3, 0⟩] := by kernel_rfl
theorem k2_size : (r0 (k2B, 0)).1 = 2 := by kernel_rfl
theorem k0_size : (r0 ([], 0)).1 = 0 := by kernel_rfl
theorem k2_len : k2B.length = 17 := by kernel_rfl
theorem encs_bytes (l : List Nat) : IsBytes (encs l) := by
  intro u hu
  obtain ⟨x, _, hx⟩ := List.mem_flatMap.1 hu
  exact enc_bytes x u hx
theorem putL_bytes (L : List RecX) : IsBytes (putL L) := by
  unfold putL
  split
  · intro u hu
    unfold recsB at hu
    rcases List.mem_append.1 hu with hu | hu
    · exact encs_bytes _ u hu
    · obtain ⟨x, _, hx⟩ := List.mem_flatMap.1 hu
      exact encs_bytes _ u hx
  · intro u hu; cases hu
theorem rc_small {x : RecX} (h0 : -1000 ≤ x.sq ∧ x.sq ≤ 1000) (h1 : -1000 ≤ x.gt ∧ x.gt ≤ 1000) (h2 : -1000 ≤ x.tt ∧ x.tt ≤ 1000) (h3 : -1000 ≤ x.vl ∧ x.vl ≤ 1000) (h4 : -1000 ≤ x.rd ∧ x.rd ≤ 1000) (h5 : -1000 ≤ x.bb ∧ x.bb ≤ 1000) : RcOk x := by
  unfold RcOk I64
  omega
theorem k2_ok : ∀ x ∈ k2, RcOk x := by
  intro x hx
  simp only [k2, List.mem_cons, List.not_mem_nil, or_false] at hx
  rcases hx with rfl | rfl <;> exact rc_small (by decide) (by decide) (by decide) (by decide) (by decide) (by decide)
theorem own_lies {w : World} {base : Nat} {v : Value} {l : List Int} (h : w.ownsRow base 5 1 v l.length (u8s l)) : ∃ A c, v = .slice A l.length c ∧ Lies w w.heap.size A (u8s l) := by
  obtain ⟨A, c, e, _, _, _, hl, _⟩ := Lies.of_own h
  exact ⟨A, c, e, hl⟩
theorem fresh_recs (w : World) (L : List RecX) : (w.alloc (.cells (rowE recA L).toArray 59)).rangeAt w.heap.size 0 (rowE recA L) := fun j u hu => by
  have h := heap_alloc_new w (.cells (rowE recA L).toArray 59)
  rw [Nat.zero_add, cell_blk h]
  simpa using hu
theorem ints_one (w : World) (x : Int) : IntsV (w.alloc (.cells #[.int .i64 x] 3)) (w.alloc (.cells #[.int .i64 x] 3)).heap.size (.slice (some ⟨w.heap.size, 0, none⟩) 1 1) [x] :=
  ⟨_, 1, rfl, (lies_new w [.int .i64 x] 3).more (by simp)⟩
set_option maxRecDepth 100000 in
set_option maxHeartbeats 8000000 in
theorem known22_any (w : World) : Calls Try.prog 32 #[] w fun e w' => e = .returned (.bool true) ∧ Below w.heap.size w w' := by
  go_enter Try.func32, Try.ntmps32
  go_wp2_with fail
  refine (logNew_any w).mono ?_
  rintro e w1 ⟨a, rfl, hlog, ha, hb1⟩
  obtain ⟨w2, hw2⟩ : ∃ y, y = w1.alloc (.cells #[.int .i64 0, .int .i64 0, .int .i64 1, .int .i32 (-1), .int .i64 3, .int .i32 0, .int .i64 0, .int .i64 0, .int .i64 2, .int .i32 0, .int .i64 3, .int .i32 0] 59) := ⟨_, rfl⟩
  have hb2 : Below w1.heap.size w1 w2 := by rw [hw2]; exact below_alloc w1 _
  have HAD := Lib.hid (logAdd_any (c2 := 2) (hlog.below hb2) (g := w1.heap.size) (off := 0) (L2 := k2) (by rw [hw2]; exact fresh_recs w1 k2) (by show 0 + 2 ≤ 100000; omega))
  have HB2 := Lib.hid (nextB hb1 hb2)
  have HW2 := Lib.hid hw2
  have HA := Lib.hid ha
  clear hlog hb2 hb1 hw2 ha
  go_wp2_with fail
  rw [← HW2.out]
  refine HAD.out.mono ?_
  rintro e w3 ⟨rfl, S3, hl3, hst⟩
  have hl3 : LogV w3 S3 a k2 := hl3
  have HB3 := Lib.hid (HB2.out.trans (hst.below (lo := w.heap.size) (fun k e => by rw [e]; exact HA.out) HB2.out.size))
  have HL3 := Lib.hid hl3
  have HAL := Lib.hid (logAll_any hl3 (by show 2 ≤ 100000; omega))
  clear hst hl3
  go_wp2_with fail
  refine HAL.out.mono ?_
  rintro e w4 ⟨v4, rfl, o4, b4⟩
  have HPU := Lib.hid (auditPut_any o4.rc (by show 2 ≤ 1000; omega) k2_ok)
  have HB4 := Lib.hid (nextB HB3.out b4)
  have HL4 := Lib.hid (HL3.out.below b4)
  obtain ⟨A4, c4, e4⟩ := o4.shape
  have e4 : v4 = .slice A4 2 c4 := e4
  subst e4
  clear o4 b4
  rw [k2_bytes] at HPU
  go_wp2_with fail
  refine HPU.out.mono ?_
  rintro e w5 ⟨v5, rfl, o5, b5⟩
  obtain ⟨A5, c5, e5, hl5⟩ := own_lies o5
  have HRD := Lib.hid (read_any (c := c5) (by rw [k2_len]; omega) hl5 (putL_bytes k2) (by rw [k2_size]; omega))
  rw [k2_read, k2_len] at HRD
  rw [k2_len] at e5
  subst e5
  have HB5 := Lib.hid (nextB HB4.out b5)
  have HL5 := Lib.hid (HL4.out.below b5)
  clear o5 b5 hl5
  go_wp2_with fail
  refine HRD.out.mono ?_
  rintro e w6 ⟨v6, rfl, o6, b6⟩
  have o6 : OwnR w6 w5.heap.size v6 k2 := o6
  obtain ⟨A6, c6, e6⟩ := o6.shape
  have e6 : v6 = .slice A6 2 c6 := e6
  subst e6
  have HO6 := Lib.hid o6
  have HB6 := Lib.hid (nextB HB5.out b6)
  have HL6 := Lib.hid (HL5.out.below b6)
  have HRN := Lib.hid (read_any (w := w6) (A := none) (c := 0) (l := []) (by simp) Lies.nil (fun u hu => by cases hu) (by rw [k0_size]; omega))
  rw [k0_read] at HRN
  clear o6 b6
  go_wp2_with fail
  refine HRN.out.mono ?_
  rintro e w7 ⟨v7, rfl, o7, b7⟩
  have HB7 := Lib.hid (nextB HB6.out b7)
  have HL7 := Lib.hid (HL6.out.below b7)
  have HO7 := Lib.hid (HO6.out.keep b7)
  obtain ⟨A7, c7, e7⟩ := o7.shape
  have e7 : v7 = .slice A7 0 c7 := e7
  subst e7
  clear o7 b7
  have HAL7 := Lib.hid (logAll_any HL7.out (by show 2 ≤ 100000; omega))
  go_wp2_with fail
  refine HAL7.out.mono ?_
  rintro e w8 ⟨v8, rfl, o8, b8⟩
  obtain ⟨A8, c8, e8⟩ := o8.shape
  have e8 : v8 = .slice A8 2 c8 := e8
  subst e8
  obtain ⟨w9, hw9⟩ : ∃ y, y = w8.alloc (.cells #[.int .i64 2] 3) := ⟨_, rfl⟩
  have b9 : Below w8.heap.size w8 w9 := by rw [hw9]; exact below_alloc w8 _
  have HB9 := Lib.hid (nextB (nextB HB7.out b8) b9)
  have HL9 := (HL7.out.below b8).below b9
  have HO9 := Lib.hid ((HO7.out.keep b8).keep b9)
  have HOF := Lib.hid (logOf_any (vt := .slice (some ⟨w8.heap.size, 0, none⟩) 1 1) HL9 (by show 2 ≤ 100000; omega) (by rw [hw9]; exact ints_one w8 2) (by simp))
  rw [k2_of] at HOF
  have HW9 := Lib.hid hw9
  clear o8 b8 b9 hw9 HL9
  go_wp2_with fail
  rw [← HW9.out]
  refine HOF.out.mono ?_
  rintro e w10 ⟨v10, rfl, o10, b10⟩
  obtain ⟨A10, c10, e10⟩ := o10.shape
  have e10 : v10 = .slice A10 1 c10 := e10
  subst e10
  have ho10 := HO9.out.keep b10
  have HB10 := Lib.hid (nextB HB9.out b10)
  have HRT := Lib.hid (right_any ho10.rc (by show 2 ≤ 100000; omega) k2_ok)
  rw [k2_right] at HRT
  obtain ⟨g, off, eA, hr⟩ := ho10.rc.at' (j := 0) (by show 0 < 2; omega)
  subst eA
  have x3 : w10.cell? ⟨g, off + 3, none⟩ = some (.int .i32 (-1)) := by
    have h3 := hr 3 (.int .i32 (-1)) rfl
    simpa using h3
  clear o10 b10 ho10 hr
  go_wp2_with fail
  refine HRT.out.mono ?_
  rintro e w11 ⟨rfl, b11⟩
  obtain ⟨w12, hw12⟩ : ∃ y, y = w11.alloc (.cells #[.int .i64 1, .int .i64 0, .int .i64 0, .int .i32 0, .int .i64 0, .int .i32 0] 59) := ⟨_, rfl⟩
  have b12 : Below w11.heap.size w11 w12 := by rw [hw12]; exact below_alloc w11 _
  have HB12 := Lib.hid (nextB (nextB HB10.out b11) b12)
  have HR1 := Lib.hid (right_any (w := w12) (v := .slice (some ⟨w11.heap.size, 0, none⟩) 1 1) (L := [⟨1, 0, 0, 0, 0, 0⟩]) ⟨_, 1, rfl, .inr ⟨w11.heap.size, 0, rfl, by rw [hw12]; exact fresh_recs w11 [⟨1, 0, 0, 0, 0, 0⟩]⟩⟩ (by simp) (by intro x hx; rw [List.mem_singleton.1 hx]; exact rc_small (by decide) (by decide) (by decide) (by decide) (by decide) (by decide)))
  rw [k1_right] at HR1
  have HW12 := Lib.hid hw12
  clear b11 b12 hw12
  go_wp2_with fail
  rw [← HW12.out]
  refine HR1.out.mono ?_
  rintro e w13 ⟨rfl, b13⟩
  have HB13 := Lib.hid (nextB HB12.out b13)
  clear b13
  go_wp2_with fail
  go_ret
  exact ⟨rfl, HB13.out⟩

end Go.Proofs.Ytmcphlklknfbmaa
