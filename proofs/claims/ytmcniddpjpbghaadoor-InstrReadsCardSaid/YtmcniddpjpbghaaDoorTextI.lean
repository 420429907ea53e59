/- The text of an instruction, by package instr. -/
import Derived.Test.YtmcniddpjpbghaaDoorIns
import Derived.Test.YtmcniddpjpbghaaDoorCut
import Derived.Lib.ItoaLen
namespace Go.Proofs.YtmcniddpjpbghaaDoor
set_option maxRecDepth 100000
open Go.RowKit

theorem nm_len : ∀ i, i < 27 → (nm i).size ≤ 7 ∧ (nm i).data.toList.length = (nm i).size := by decide +kernel
theorem nameA_known {n : Nat} {arg : Int} (h : rightB n arg = true) : nameA n = nm n := by
  have := rightB_known h
  unfold nameA; rw [this]; simp
theorem textL_no {op arg : Int} (h : rightB op arg = false) : textL op arg = [] := by unfold textL; rw [h]; rfl
theorem textL_one {n : Nat} {arg : Int} (h : rightB n arg = true) (hz : argZ n = 0) : textL n arg = (nm n).data.toList := by unfold textL; rw [h, hz, nameA_known h]; simp
theorem textL_two {n : Nat} {arg : Int} (h : rightB n arg = true) (hz : argZ n ≠ 0) : textL n arg = (nm n).data.toList ++ 32 :: Lib.itoa arg := by unfold textL; rw [h, nameA_known h]; simp [hz]
theorem textL_length (op arg : Int) (h : I32 arg) : (textL op arg).length ≤ 40 := by
  obtain ⟨h1, h2⟩ := h
  cases hr : rightB op arg with
  | false => rw [textL_no hr]; simp
  | true =>
    have hk := (knownB_iff op).1 (rightB_known hr)
    obtain ⟨n, rfl⟩ : ∃ n : Nat, op = n := ⟨op.toNat, by omega⟩
    obtain ⟨l1, l2⟩ := nm_len n (by omega)
    by_cases hz : argZ n = 0
    · rw [textL_one hr hz]; omega
    · rw [textL_two hr hz, List.length_append, List.length_cons]
      have := Lib.itoa_length_le arg (by omega) (by omega)
      omega
theorem bytes_size (l : List UInt8) : (⟨l.toArray⟩ : ByteArray).size = l.length := by show l.toArray.size = _; simp
theorem BB.drew {w : World} {b : Nat} {l : List UInt8} (h : BB w b l) : BB w.drew b l := h.below (Below.refl _ _).drew

set_option maxHeartbeats 4000000 in
theorem text_any (op arg : Int) (w : World) (h : I32 arg) (hV : VarsIn w) :
    Calls Tryd.prog 13 #[insV op arg] w fun e w' => e = .returned (.string ⟨(textL op arg).toArray⟩) ∧ Below w.heap.size w w' := by
  obtain ⟨r, hr⟩ : ∃ r, rightB op arg = r := ⟨_, rfl⟩
  obtain ⟨h1, h2⟩ := h
  have HR : Hid (∀ w, Calls Tryd.prog 10 #[insV op arg] w fun e w' => e = .returned (.bool r) ∧ Below w.heap.size w w') := Lib.hid fun w => by rw [← hr]; exact right_any op arg w
  have B0 := Lib.hid (below_alloc w (.cells #[.int .i64 op, .int .i32 arg] 23))
  have HV := Lib.hid hV; clear hV
  unfold insV at HR ⊢
  cases r with
  | false =>
    rw [textL_no hr]
    clear hr
    go_enter Tryd.func13, Tryd.ntmps13
    go_wp2_with fail
    refine (HR.out _).mono ?_
    rintro e w2 ⟨rfl, hb⟩
    have B2 := Lib.hid (nextB B0.out hb); clear hb
    go_wp2_with fail
    go_ret
    exact ⟨rfl, B2.out⟩
  | true =>
    have hk := (knownB_iff op).1 (rightB_known hr)
    obtain ⟨n, rfl⟩ : ∃ n : Nat, op = n := ⟨op.toNat, by omega⟩
    obtain ⟨z, hz⟩ : ∃ z, argZ n = z := ⟨_, rfl⟩
    obtain ⟨l1, l2⟩ := nm_len n (by omega)
    have HH : Hid (∀ w, Calls Tryd.prog 29 #[.int .i64 n] w fun e w' => e = .returned (.bool (z != 0)) ∧ Below w.heap.size w w') := Lib.hid fun w => by rw [← hz]; exact hasArg_any n w
    have HNM : Hid (∀ w, NamesIn w → Calls Tryd.prog 34 #[.int .i64 n] w fun e w' => e = .returned (.string (nm n)) ∧ w' = w) := Lib.hid fun w hN => by rw [← nameA_known hr]; exact name_any n w hN
    have E1 := Lib.hid (fun h => textL_one hr (by rw [hz]; exact h) : z = 0 → textL n arg = (nm n).data.toList)
    have E2 := Lib.hid (fun h => textL_two hr (by rw [hz]; exact h) : z ≠ 0 → textL n arg = (nm n).data.toList ++ 32 :: Lib.itoa arg)
    clear hr hz
    obtain ⟨S, hS⟩ : ∃ S, nm n = S := ⟨_, rfl⟩
    obtain ⟨T, hT⟩ : ∃ T, textL n arg = T := ⟨_, rfl⟩
    rw [hS] at HNM E1 E2 l1 l2
    rw [hT] at E1 E2 ⊢
    clear hS hT
    go_enter Tryd.func13, Tryd.ntmps13
    go_wp2_with fail
    refine (HR.out _).mono ?_
    rintro e w2 ⟨rfl, hb⟩
    have c0 : w2.cell? ⟨w.heap.size, 0, none⟩ = some (.int .i64 n) := (hb.cell (p := ⟨w.heap.size, 0, none⟩) (by simp)).trans (cell_blk (heap_alloc_new w _) 0)
    have c1 : w2.cell? ⟨w.heap.size, 1, none⟩ = some (.int .i32 arg) := (hb.cell (p := ⟨w.heap.size, 1, none⟩) (by simp)).trans (cell_blk (heap_alloc_new w _) 1)
    have hlt : w.heap.size < w2.heap.size := by have := hb.size; simp at this; omega
    have B2 := Lib.hid (nextB B0.out hb); clear hb
    have hbb := BB.new w2
    have h23 := below_alloc w2 (.cells #[.pointer none, .slice none 0 0] 64)
    obtain ⟨w3, hw3⟩ : ∃ w3, w3 = w2.alloc (.cells #[.pointer none, .slice none 0 0] 64) := ⟨_, rfl⟩
    obtain ⟨b, hb⟩ : ∃ b, b = w2.heap.size := ⟨_, rfl⟩
    rw [← hw3, ← hb] at hbb h23
    have c0' : w3.cell? ⟨w.heap.size, 0, none⟩ = some (.int .i64 n) := (h23.cell (p := ⟨w.heap.size, 0, none⟩) (by show w.heap.size < b; omega)).trans c0
    have c1' : w3.cell? ⟨w.heap.size, 1, none⟩ = some (.int .i32 arg) := (h23.cell (p := ⟨w.heap.size, 1, none⟩) (by show w.heap.size < b; omega)).trans c1
    have B3 := Lib.hid (B2.out.trans (h23.mono (by omega)))
    have V3 := Lib.hid (HV.out.below B3.out)
    have BB3 := Lib.hid hbb
    clear h23 hbb
    go_wp2_with fail
    rw [← hw3, ← hb]
    clear c0 c1
    have hlb : w.heap.size < b := by omega
    clear hw3 hb hlt
    refine (HNM.out w3 V3.out.names).mono ?_
    rintro e w3 ⟨rfl, rfl⟩
    go_wp2_with fail
    refine (write_any S w3 BB3.out (by simp; omega)).mono ?_
    rintro e w4 ⟨rfl, hbb, h34⟩
    have d0 : w4.cell? ⟨w.heap.size, 0, none⟩ = some (.int .i64 n) := (h34.cell (p := ⟨w.heap.size, 0, none⟩) hlb).trans c0'
    have d1 : w4.cell? ⟨w.heap.size, 1, none⟩ = some (.int .i32 arg) := (h34.cell (p := ⟨w.heap.size, 1, none⟩) hlb).trans c1'
    have B4 := Lib.hid (B3.out.trans (h34.mono (by omega)))
    have BB4 := Lib.hid hbb
    have hb4 := hbb.lt
    clear c0' c1' hbb h34
    go_wp2_with fail
    refine (HH.out w4).mono ?_
    rintro e w5 ⟨rfl, h45⟩
    have d1' : w5.cell? ⟨w.heap.size, 1, none⟩ = some (.int .i32 arg) := (h45.cell (p := ⟨w.heap.size, 1, none⟩) (by show w.heap.size < _; omega)).trans d1
    have B5 := Lib.hid (nextB B4.out h45)
    have BB5 := Lib.hid (BB4.out.below h45)
    have hb5 := BB5.out.lt
    clear h45 d0 d1 hb4
    by_cases hz : z = 0
    · have e := E1.out hz
      subst hz
      subst e
      go_wp2_with fail
      refine (string_any w5 BB5.out).mono ?_
      rintro e w6 ⟨rfl, h56⟩
      have B6 := Lib.hid (B5.out.trans (h56.mono (by omega))); clear h56
      go_wp2_with fail
      go_ret
      exact ⟨rfl, B6.out⟩
    · have e := E2.out hz
      have hz2 : (z != 0) = true := by simpa using hz
      rw [hz2]
      subst e
      go_wp2_with fail
      refine (byte_any 32 w5 BB5.out (by omega) (by simp; omega)).mono ?_
      rintro e w6 ⟨rfl, hbb, h56⟩
      have d6 : w6.cell? ⟨w.heap.size, 1, none⟩ = some (.int .i32 arg) := (h56.cell (p := ⟨w.heap.size, 1, none⟩) hlb).trans d1'
      have B6 := Lib.hid (B5.out.trans (h56.mono (by omega)))
      have BB6 := Lib.hid hbb
      have hb6 := hbb.lt
      have V6 := Lib.hid (HV.out.below B6.out)
      clear hbb h56 d1'
      go_wp2_with fail
      refine (itoa_any arg w6 (by omega) (by omega) V6.out).mono ?_
      rintro e w7 ⟨rfl, h67⟩
      have B7 := Lib.hid (nextB B6.out h67)
      have BB7 := Lib.hid (BB6.out.below h67)
      have hI := Lib.itoa_length_le arg (by omega) (by omega)
      clear h67
      obtain ⟨I, hI2⟩ : ∃ I, Lib.itoa arg = I := ⟨_, rfl⟩
      rw [hI2] at hI ⊢
      have HI2 := Lib.hid hI2; clear hI2
      have hsz := bytes_size I
      go_wp2_with fail
      refine (write_any ⟨I.toArray⟩ w7 BB7.out (by rw [hsz]; simp; omega)).mono ?_
      rintro e w8 ⟨rfl, hbb, h78⟩
      have B8 := Lib.hid (B7.out.trans (h78.mono (by omega)))
      have BB8 := Lib.hid hbb
      clear hbb h78
      go_wp2_with fail
      refine (string_any w8 BB8.out).mono ?_
      rintro e w9 ⟨rfl, h89⟩
      have B9 := Lib.hid (B8.out.trans (h89.mono (by omega))); clear h89
      go_wp2_with fail
      go_ret
      exact ⟨by rw [HI2.out]; simp, B9.out⟩

end Go.Proofs.YtmcniddpjpbghaaDoor
