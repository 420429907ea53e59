/- Law 6's few known answers. -/
import Derived.Test.YtmcniddpjpbghaaDoorKnown6
namespace Go.Proofs.YtmcniddpjpbghaaDoor
set_option maxRecDepth 100000
open Go.RowKit

/-- Block b of w holds an instruction. -/
def IB (w : World) (b : Nat) (op arg : Int) : Prop := w.heap[b]? = some (.cells #[.int .i64 op, .int .i32 arg] 23 (0, 0))
section
variable {w w' : World} {b : Nat} {op arg : Int}
theorem IB.lt (h : IB w b op arg) : b < w.heap.size := (Array.getElem?_eq_some_iff.1 h).1
theorem IB.below (h : IB w b op arg) (hb : Below w.heap.size w w') : IB w' b op arg := (hb.block b h.lt).trans h
theorem IB.c0 (h : IB w b op arg) : w.cell? ⟨b, 0, none⟩ = some (.int .i64 op) := cell_blk h 0
theorem IB.c1 (h : IB w b op arg) : w.cell? ⟨b, 1, none⟩ = some (.int .i32 arg) := cell_blk h 1
theorem new_ib (w : World) (op arg : Int) : ∃ w' b, w.alloc (.cells #[.int .i64 op, .int .i32 arg] 23) = w' ∧ w.heap.size = b ∧ IB w' b op arg ∧ Below w.heap.size w w' :=
  ⟨_, _, rfl, rfl, heap_alloc_new w _, below_alloc w _⟩
end
theorem right_lit {op arg : Int} {b : Bool} (w : World) (h : rightB op arg = b) : Calls Tryd.prog 10 #[.agg #[.int .i64 op, .int .i32 arg]] w fun e w' => e = .returned (.bool b) ∧ Below w.heap.size w w' := by
  rw [← h]; exact right_any op arg w
theorem text_lit {op arg : Int} {s : ByteArray} (w : World) (ha : I32 arg) (hV : VarsIn w) (h : (⟨(textL op arg).toArray⟩ : ByteArray) = s) : Calls Tryd.prog 13 #[.agg #[.int .i64 op, .int .i32 arg]] w fun e w' => e = .returned (.string s) ∧ Below w.heap.size w w' := by
  rw [← h]; exact text_any op arg w ha hV

set_option maxHeartbeats 1000000 in
theorem known6_any (w : World) (hV : VarsIn w) : Calls Tryd.prog 7 #[] w fun e w' => e = .returned (.bool true) ∧ Below w.heap.size w w' := by
  have i32 : I32 (-5) := ⟨by decide, by decide⟩
  have r5 : rightB 1 (-5) = true := by decide +kernel
  have t5 : (⟨(textL 1 (-5)).toArray⟩ : ByteArray) = ⟨#[112, 117, 115, 104, 32, 45, 53]⟩ := by decide +kernel
  have hcl := codeL_length 1 (-5)
  have hcb := codeL_bytes 1 (-5)
  have HV := Lib.hid hV; clear hV
  have I32' := Lib.hid i32; have R5 := Lib.hid r5; have T5 := Lib.hid t5; have HCB := Lib.hid hcb
  clear i32 r5 t5 hcb
  obtain ⟨w1, b1, hw1, hb1, I1, B1⟩ := new_ib w 1 (-5)
  have J1 := Lib.hid I1; have k0 := I1.c0; have k1 := I1.c1; have C1 := Lib.hid B1; clear I1 B1
  go_enter Tryd.func7, Tryd.ntmps7
  go_wp2_with fail
  refine (putI_any 1 (-5) w1 I32'.out).mono ?_
  rintro e w2 ⟨v, rfl, ho, hb⟩
  clear hw1 k0 k1
  have C2 := Lib.hid (nextB C1.out hb); have J2 := Lib.hid (J1.out.below hb); clear hb C1 J1
  obtain ⟨A, c, rfl, hn, hm, hle, hl, _⟩ := Lies.of_own ho
  have HL := Lib.hid hl; clear ho hl
  go_wp2_with fail
  refine (new_any w2.heap.size A c (codeL 1 (-5)) w2 (by omega) (Nat.le_refl _) HL.out HCB.out).mono ?_
  rintro e w3 ⟨g, rfl, hg, R3, hb⟩
  have hg0 : w.heap.size ≤ g := by have := C2.out.size; omega
  have hg1 : b1 < g := by have := J2.out.lt; omega
  have C3 := Lib.hid (nextB C2.out hb); have J3 := Lib.hid (J2.out.below hb); have RR3 := Lib.hid R3; clear hb C2 J2 R3
  go_wp2_with fail
  refine (takeBack_any (more := []) w3 R5.out I32'.out (by rw [List.append_nil]; exact RR3.out)).mono ?_
  rintro e w4 ⟨rfl, R4, g4⟩
  have J4 := Lib.hid (show IB w4 b1 1 (-5) from (g4.block b1 J3.out.lt (by intro e; injection e; omega)).trans J3.out)
  have C4 := Lib.hid (C3.out.trans (below_of_grown g4 hg0 C3.out.size))
  clear R4 g4 C3 J3 RR3 hg hg0 hg1
  obtain ⟨w5, b5, hw5, hb5, I5, B5⟩ := new_ib w4 1 (-5)
  have J5 := Lib.hid (J4.out.below B5); have C5 := Lib.hid (nextB C4.out B5); have K5 := Lib.hid I5
  clear J4 C4 I5 B5
  unfold insV
  go_wp2_with fail
  have PB : Calls Tryd.prog 17 #[.string ⟨#[112, 117, 115, 104, 32, 45, 53]⟩] w5 fun e w' => e = .returned (.tuple #[insV 1 (-5), .bool true]) ∧ Below w5.heap.size w5 w' := by
    rw [← T5.out]; exact parseBack_any w5 R5.out I32'.out (HV.out.below C5.out)
  refine PB.mono ?_
  clear PB
  rintro e w6 ⟨rfl, hb⟩
  clear hw5
  have J6 := Lib.hid (J5.out.below hb); have C6 := Lib.hid (nextB C5.out hb); have K6 := Lib.hid (K5.out.below hb)
  clear hb J5 C5 K5
  obtain ⟨w7, b7, hw7, hb7, I7, B7⟩ := new_ib w6 1 (-5)
  have J7 := Lib.hid (J6.out.below B7); have C7 := Lib.hid (nextB C6.out B7); have K7 := Lib.hid (K6.out.below B7); have L7 := Lib.hid I7
  clear J6 C6 K6 B7 I7
  unfold insV
  go_wp2_with fail
  refine (takeNil_any w7).mono ?_
  rintro e w8 ⟨rfl, hb⟩
  clear hw7
  have J8 := Lib.hid (J7.out.below hb); have C8 := Lib.hid (nextB C7.out hb); have K8 := Lib.hid (K7.out.below hb); have L8 := Lib.hid (L7.out.below hb)
  clear hb J7 C7 K7 L7
  have a0 := J8.out.c0; have a1 := J8.out.c1; have a2 := K8.out.c0; have a3 := K8.out.c1; have a4 := L8.out.c0; have a5 := L8.out.c1
  have l1 := J8.out.lt; have l2 := K8.out.lt; have l3 := L8.out.lt
  unfold insV
  have hb9 := below_alloc w8 (.cells #[.int .i64 0, .int .i32 0] 23)
  go_wp2_with fail
  have J9 := Lib.hid (J8.out.below hb9); have C9 := Lib.hid (nextB C8.out hb9)
  clear hb9 a0 a1 a2 a3 a4 a5 J8 C8 K8 L8
  refine (text_lit _ I32'.out (HV.out.below C9.out) T5.out).mono ?_
  rintro e w10 ⟨rfl, hb⟩
  have J10 := Lib.hid (J9.out.below hb); have C10 := Lib.hid (nextB C9.out hb)
  clear hb J9 C9
  have a0 := J10.out.c0; have a1 := J10.out.c1
  go_wp2_with fail
  refine (right_lit w10 R5.out).mono ?_
  rintro e w11 ⟨rfl, hb⟩
  have C11 := Lib.hid (nextB C10.out hb)
  clear hb J10 C10 a0 a1
  go_wp2_with fail
  refine (right_lit (b := false) w11 (by decide +kernel)).mono ?_
  rintro e w12 ⟨rfl, hb⟩
  have C12 := Lib.hid (nextB C11.out hb)
  clear hb C11
  go_wp2_with fail
  refine (putI_any 0 0 w12 ⟨by decide, by decide⟩).mono ?_
  rintro e w13 ⟨v, rfl, ho, hb⟩
  rw [codeL_no (by decide +kernel)] at ho
  have C13 := Lib.hid (nextB C12.out hb)
  obtain ⟨A2, c2, rfl, _, _, _, _, _⟩ := Lies.of_own ho
  clear hb C12 ho
  simp only [List.length_nil]
  go_wp2_with fail
  go_ret
  exact ⟨rfl, C13.out⟩

end Go.Proofs.YtmcniddpjpbghaaDoor
