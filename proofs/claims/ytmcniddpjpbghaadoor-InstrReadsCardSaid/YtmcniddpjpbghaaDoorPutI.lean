/- The bytes of an instruction, by package instr and by the reference. -/
import Derived.Test.YtmcniddpjpbghaaDoorIns
import Derived.Test.YtmcniddpjpbghaaDoorRef
import Derived.StillTailTactics
namespace Go.Proofs.YtmcniddpjpbghaaDoor
set_option maxRecDepth 100000
open Go.RowKit

theorem argW_le (arg : Int) : argW arg ≤ 4294967295 := by unfold argW; omega
theorem codeL_no {op arg : Int} (h : rightB op arg = false) : codeL op arg = [] := by unfold codeL; rw [h]; rfl
theorem codeL_one {n : Nat} {arg : Int} (h : rightB n arg = true) (hz : argZ n = 0) : codeL n arg = enc n := by unfold codeL; rw [h, hz]; simp
theorem codeL_two {n : Nat} {arg : Int} (h : rightB n arg = true) (hz : argZ n ≠ 0) : codeL n arg = enc n ++ enc (argW arg) := by unfold codeL; rw [h]; simp [hz]
theorem codeL_length (op arg : Int) : (codeL op arg).length ≤ 20 := by
  unfold codeL
  cases hr : rightB op arg with
  | false => simp
  | true =>
    have hk := (knownB_iff op).1 (rightB_known hr)
    have h1 := enc_length_le op.toNat (by omega)
    have h2 := enc_length_le (argW arg) (by have := argW_le arg; omega)
    simp only [if_true]
    split
    · omega
    · rw [List.length_append]; omega
theorem enc_small {n : Nat} (h : n < 128) : enc n = [(n : Int)] := by
  have h0 : topk n = 0 := topk_of n 0 (by omega) (Nat.div_eq_of_lt (by omega)) (.inl rfl)
  rw [enc, h0, encAt, Nat.mod_eq_of_lt h]
theorem codeL_pos {op arg : Int} (h : rightB op arg = true) : 1 ≤ (codeL op arg).length := by
  have hk := (knownB_iff op).1 (rightB_known h)
  obtain ⟨n, rfl⟩ : ∃ n : Nat, op = n := ⟨op.toNat, by omega⟩
  by_cases hz : argZ n = 0
  · rw [codeL_one h hz]; exact (enc_length_le n (by omega)).1
  · rw [codeL_two h hz, List.length_append]; have := (enc_length_le n (by omega)).1; omega
theorem codeL_bytes (op arg : Int) : IsBytes (codeL op arg) := by
  unfold codeL
  split
  · split
    · exact enc_bytes _
    · exact (enc_bytes _).append (enc_bytes _)
  · intro u hu; cases hu

theorem refInt_any (arg : Int) (w : World) (h : I32 arg) : Calls Tryd.prog 27 #[.int .i32 arg] w fun e w' => e = .returned (.int .u64 (argW arg : Nat)) ∧ w' = w := by
  have e : (argW arg : Int) = arg % 4294967296 := by unfold argW; omega
  obtain ⟨h1, h2⟩ := h
  go_enter Tryd.func27, Tryd.ntmps27
  go_wp2
  go_ret
  exact ⟨by rw [e]; rfl, rfl⟩

/-- What Put answers: bytes of the call's own. -/
def PutMade (w : World) (l : List Int) (e : Ending) (w' : World) : Prop := ∃ v, e = .returned v ∧ w'.ownsRow w.heap.size 5 1 v l.length (u8s l) ∧ Below w.heap.size w w'
theorem putMade_nil (w w' : World) (h : Below w.heap.size w w') : PutMade w [] (.returned (.slice none 0 0)) w' := ⟨_, rfl, World.ownsRow_nil _ _ _ _, h⟩
theorem PutMade.of {w w1 w2 : World} {l : List Int} {v : Value} (hb : Below w.heap.size w w1) (ho : w2.ownsRow w1.heap.size 5 1 v l.length (u8s l)) (hb2 : Below w1.heap.size w1 w2) : PutMade w l (.returned v) w2 :=
  ⟨v, rfl, own_base ho hb.size, nextB hb hb2⟩

set_option maxHeartbeats 4000000 in
theorem putI_any (op arg : Int) (w : World) (h : I32 arg) : Calls Tryd.prog 12 #[insV op arg] w (PutMade w (codeL op arg)) := by
  obtain ⟨r, hr⟩ : ∃ r, rightB op arg = r := ⟨_, rfl⟩
  obtain ⟨h1, h2⟩ := h
  have HR : Hid (∀ w, Calls Tryd.prog 10 #[insV op arg] w fun e w' => e = .returned (.bool r) ∧ Below w.heap.size w w') := Lib.hid fun w => by rw [← hr]; exact right_any op arg w
  have B0 := Lib.hid (below_alloc w (.cells #[.int .i64 op, .int .i32 arg] 23))
  unfold insV at HR ⊢
  cases r with
  | false =>
    rw [codeL_no hr]
    clear hr
    go_enter Tryd.func12, Tryd.ntmps12
    go_wp2_with fail
    refine (HR.out _).mono ?_
    rintro e w2 ⟨rfl, hb⟩
    have B2 := Lib.hid (nextB B0.out hb); clear hb
    go_wp2_with fail
    go_ret
    exact putMade_nil _ _ B2.out
  | true =>
    have hk := (knownB_iff op).1 (rightB_known hr)
    obtain ⟨n, rfl⟩ : ∃ n : Nat, op = n := ⟨op.toNat, by omega⟩
    obtain ⟨z, hz⟩ : ∃ z, argZ n = z := ⟨_, rfl⟩
    have HH : Hid (∀ w, Calls Tryd.prog 29 #[.int .i64 n] w fun e w' => e = .returned (.bool (z != 0)) ∧ Below w.heap.size w w') := Lib.hid fun w => by rw [← hz]; exact hasArg_any n w
    have E1 := Lib.hid (fun h => codeL_one hr (by rw [hz]; exact h) : z = 0 → codeL n arg = enc n)
    have E2 := Lib.hid (fun h => codeL_two hr (by rw [hz]; exact h) : z ≠ 0 → codeL n arg = enc n ++ enc (argW arg))
    have eW : (argW arg : Int) = arg % 4294967296 := by unfold argW; omega
    obtain ⟨m, hm⟩ : ∃ m, argW arg = m := ⟨_, rfl⟩
    rw [hm] at eW E2
    clear hr hz hm
    have hm2 : m ≤ 4294967295 := by omega
    obtain ⟨l, hl⟩ : ∃ l, codeL n arg = l := ⟨_, rfl⟩
    rw [hl] at E1 E2 ⊢
    clear hl
    go_enter Tryd.func12, Tryd.ntmps12
    go_wp2_with fail
    refine (HR.out _).mono ?_
    rintro e w2 ⟨rfl, hb⟩
    have c0 : w2.cell? ⟨w.heap.size, 0, none⟩ = some (.int .i64 n) := (hb.cell (p := ⟨w.heap.size, 0, none⟩) (by simp)).trans (cell_blk (heap_alloc_new w _) 0)
    have c1 : w2.cell? ⟨w.heap.size, 1, none⟩ = some (.int .i32 arg) := (hb.cell (p := ⟨w.heap.size, 1, none⟩) (by simp)).trans (cell_blk (heap_alloc_new w _) 1)
    have B2 := Lib.hid (nextB B0.out hb)
    have hlt : w.heap.size < w2.heap.size := by have := hb.size; simp at this; omega
    clear hb
    go_wp2_with fail
    refine (HH.out _).mono ?_
    rintro e w3 ⟨rfl, hb⟩
    have c0' : w3.cell? ⟨w.heap.size, 0, none⟩ = some (.int .i64 n) := (hb.cell (p := ⟨w.heap.size, 0, none⟩) hlt).trans c0
    have c1' : w3.cell? ⟨w.heap.size, 1, none⟩ = some (.int .i32 arg) := (hb.cell (p := ⟨w.heap.size, 1, none⟩) hlt).trans c1
    have B3 := Lib.hid (nextB B2.out hb)
    clear hb c0 c1
    by_cases hz : z = 0
    · have e := E1.out hz
      subst hz
      subst e
      go_wp2_with fail
      refine (put_any (w3.heap.size + 1) _ 1 1 [n] _ rfl (by omega) (by intro x hx; simp at hx; omega) (by simp) (lies_new w3 [.int .u64 n] 58)).mono ?_
      rintro e w4 ⟨v, rfl, ho, hb⟩
      rw [show encs [n] = enc n by simp [encs]] at ho
      have B4 := Lib.hid (PutMade.of (nextB B3.out (below_alloc w3 _)) ho hb); clear ho hb
      go_wp2_with fail
      go_ret
      exact B4.out
    · have e := E2.out hz
      have hz2 : (z != 0) = true := by simpa using hz
      rw [hz2]
      subst e
      go_wp2_with fail
      rw [← eW]
      refine (put_any (w3.heap.size + 1) _ 2 2 [n, m] _ rfl (by omega) (by intro x hx; simp at hx; omega) (by simp) (lies_new w3 [.int .u64 n, .int .u64 m] 58)).mono ?_
      rintro e w4 ⟨v, rfl, ho, hb⟩
      rw [show encs [n, m] = enc n ++ enc m by simp [encs]] at ho
      have B4 := Lib.hid (PutMade.of (nextB B3.out (below_alloc w3 _)) ho hb); clear ho hb
      go_wp2_with fail
      go_ret
      exact B4.out

set_option maxHeartbeats 4000000 in
theorem refPutI_any (op arg : Int) (w : World) (h : I32 arg) : Calls Tryd.prog 9 #[insV op arg] w (PutMade w (codeL op arg)) := by
  obtain ⟨r, hr⟩ : ∃ r, rightB op arg = r := ⟨_, rfl⟩
  have h0 := h
  obtain ⟨h1, h2⟩ := h
  have HR : Hid (∀ w, Calls Tryd.prog 11 #[insV op arg] w fun e w' => e = .returned (.bool r) ∧ Below w.heap.size w w') := Lib.hid fun w => by rw [← hr]; exact refRight_any op arg w
  have B0 := Lib.hid (below_alloc w (.cells #[.int .i64 op, .int .i32 arg] 23))
  unfold insV at HR ⊢
  cases r with
  | false =>
    rw [codeL_no hr]
    clear hr
    go_enter Tryd.func9, Tryd.ntmps9
    go_wp2_with fail
    refine (HR.out _).mono ?_
    rintro e w2 ⟨rfl, hb⟩
    have B2 := Lib.hid (nextB B0.out hb); clear hb
    go_wp2_with fail
    go_ret
    exact putMade_nil _ _ B2.out
  | true =>
    have hk := (knownB_iff op).1 (rightB_known hr)
    obtain ⟨n, rfl⟩ : ∃ n : Nat, op = n := ⟨op.toNat, by omega⟩
    obtain ⟨z, hz⟩ : ∃ z, argZ n = z := ⟨_, rfl⟩
    have HH : Hid (∀ w, Calls Tryd.prog 24 #[.int .i64 n] w fun e w' => e = .returned (.int .i64 z) ∧ w' = w) := Lib.hid fun w => by rw [← hz]; exact refArg_any n w
    have E1 := Lib.hid (fun h => codeL_one hr (by rw [hz]; exact h) : z = 0 → codeL n arg = enc n)
    have E2 := Lib.hid (fun h => codeL_two hr (by rw [hz]; exact h) : z ≠ 0 → codeL n arg = enc n ++ enc (argW arg))
    have HI : Hid (∀ w, Calls Tryd.prog 27 #[.int .i32 arg] w fun e w' => e = .returned (.int .u64 (argW arg : Nat)) ∧ w' = w) := Lib.hid fun w => refInt_any arg w h0
    have hm2 := argW_le arg
    obtain ⟨m, hm⟩ : ∃ m, argW arg = m := ⟨_, rfl⟩
    rw [hm] at E2 HI hm2
    clear hr hz hm
    obtain ⟨l, hl⟩ : ∃ l, codeL n arg = l := ⟨_, rfl⟩
    rw [hl] at E1 E2 ⊢
    clear hl
    go_enter Tryd.func9, Tryd.ntmps9
    go_wp2_with fail
    refine (HR.out _).mono ?_
    rintro e w2 ⟨rfl, hb⟩
    have c0 : w2.cell? ⟨w.heap.size, 0, none⟩ = some (.int .i64 n) := (hb.cell (p := ⟨w.heap.size, 0, none⟩) (by simp)).trans (cell_blk (heap_alloc_new w _) 0)
    have c1 : w2.cell? ⟨w.heap.size, 1, none⟩ = some (.int .i32 arg) := (hb.cell (p := ⟨w.heap.size, 1, none⟩) (by simp)).trans (cell_blk (heap_alloc_new w _) 1)
    have B2 := Lib.hid (nextB B0.out hb)
    clear hb
    go_wp2_with fail
    refine (HH.out _).mono ?_
    rintro e w3 ⟨rfl, rfl⟩
    by_cases hz : z = 0
    · have e := E1.out hz
      subst hz
      subst e
      go_wp2_with fail
      refine (refPut_any (w3.heap.size + 1) _ 1 1 [n] _ rfl (by omega) (by intro x hx; simp at hx; omega) (by simp) (lies_new w3 [.int .u64 n] 58)).mono ?_
      rintro e w4 ⟨v, rfl, ho, hb⟩
      rw [show encs [n] = enc n by simp [encs]] at ho
      have B4 := Lib.hid (PutMade.of (nextB B2.out (below_alloc w3 _)) ho hb); clear ho hb
      go_wp2_with fail
      go_ret
      exact B4.out
    · have e := E2.out hz
      have hz2 : (z == 0) = false := by simpa using hz
      subst e
      have HIW := Lib.hid (HI.out w3.drew)
      have B3 := Lib.hid (B2.out.drew)
      go_wp2_with fail
      refine wp_region_still_tail 6 (by kernel_rfl) (by kernel_rfl) ?_
      simp only [List.take_succ_cons, List.take_zero, List.drop_succ_cons, List.drop_zero]
      iterate 5 still_step
      still_call HIW.out
      refine wpStill_nil ?_
      change wpList _ _ _ _ _ w3.drew
      go_wp2_with fail
      refine (refPut_any (w3.heap.size + 1) _ 2 2 [n, m] _ rfl (by omega) (by intro x hx; simp at hx; omega) (by simp) (lies_new w3.drew [.int .u64 n, .int .u64 m] 58)).mono ?_
      rintro e w4 ⟨v, rfl, ho, hb⟩
      rw [show encs [n, m] = enc n ++ enc m by simp [encs]] at ho
      have B4 := Lib.hid (PutMade.of (nextB B3.out (below_alloc w3.drew _)) ho hb); clear ho hb
      go_wp2_with fail
      go_ret
      exact B4.out

end Go.Proofs.YtmcniddpjpbghaaDoor
