/- InstrNumbers returns true for every number and every choice of instruction, and changes nothing: an argument of any size is encoded and decoded, and a negative one is right for Push and Fail alone. No condition but what the packages' own texts lay. -/
import Derived.Test.YtmcniddpjpbghaaDoorLaw6
import Derived.Test.YtmcniddpjpbghaaDoorLaid6
import Derived.Test.YtmcniddpjpbghaaDoorTie
import Derived.Test.YtmcniddpjpbghaaDoorCards
import Derived.SevenTiedAt
import Derived.Deep.CutRange
import Derived.Deep.DeepCutAuto
namespace Go.Proofs.YtmcniddpjpbghaaDoor.instrNumbers
set_option maxRecDepth 100000
open Go.RowKit Go.ChangeShapes Go.WideShapes Go.ChangeAt

/-- The instruction that is picked. -/
def pick (o : Nat) : Nat := [1, 26, 10, 12, 20, 22].getD (o % 6) 0
theorem pick_facts (o : Nat) : knownB (pick o) = true ∧ argZ (pick o) ≠ 0 ∧ (argZ (pick o) == 1) = (pick o == 1 || pick o == 26) ∧ pick o ≤ 26 ∧ 1 ≤ pick o ∧ (enc (pick o)).length = 1 := by
  have h : o % 6 < 6 := by omega
  unfold pick
  generalize o % 6 = i at *
  have all : ∀ i, i < 6 → (let p : Nat := [1, 26, 10, 12, 20, 22].getD i 0; knownB p = true ∧ argZ p ≠ 0 ∧ (argZ p == 1) = (p == 1 || p == 26) ∧ p ≤ 26 ∧ 1 ≤ p ∧ (enc p).length = 1) := by decide +kernel
  exact all i h

theorem enc32_length {m : Nat} (h : m ≤ 4294967295) : 1 ≤ (enc m).length ∧ (enc m).length ≤ 5 := by
  rw [enc_length]
  have hb := Lib.bitLen_le m 32 (by omega) (by omega)
  unfold topk; omega

def pickCells : Array Value := #[.int .i64 1, .int .i64 26, .int .i64 10, .int .i64 12, .int .i64 20, .int .i64 22]
theorem pickCells_get (o : Nat) : pickCells[o % 6]? = some (.int .i64 (pick o : Nat)) := by
  have h : o % 6 < 6 := by omega
  unfold pickCells pick
  generalize o % 6 = i at *
  match i, h with
  | 0, _ => rfl
  | 1, _ => rfl
  | 2, _ => rfl
  | 3, _ => rfl
  | 4, _ => rfl
  | 5, _ => rfl

set_option maxRecDepth 100000 in
set_option maxHeartbeats 1000000 in
theorem walk (n : Int) (o : Nat) (w : World) (hn : I32 n) (ho : o ≤ 255) (hV : VarsIn w) :
    Calls Tryd.prog 5 #[.int .i32 n, .int .u8 o] w fun e w' => e = .returned (.bool true) ∧ Below w.heap.size w w' := by
  obtain ⟨p1, p2, p3, p4, p5, p6⟩ := pick_facts o
  obtain ⟨k, hk⟩ : ∃ k, pick o = k := ⟨_, rfl⟩
  have hget := pickCells_get o
  rw [hk] at p1 p2 p3 p4 p5 p6 hget
  obtain ⟨r, hr⟩ : ∃ r, rightB k n = r := ⟨_, rfl⟩
  have er : r = (decide (0 ≤ n) || ((k : Int) == 1 || (k : Int) == 26)) := by
    rw [← hr]; unfold rightB; rw [p1, if_neg p2, p3]
    have e1 : ((k : Int) == 1) = (k == 1) := by rw [Bool.eq_iff_iff]; simp; omega
    have e2 : ((k : Int) == 26) = (k == 26) := by rw [Bool.eq_iff_iff]; simp; omega
    rw [e1, e2]; rfl
  have HZ := Lib.hid p2
  have HR := Lib.hid hr; have ER := Lib.hid er; have HN := Lib.hid hn; have HV := Lib.hid hV
  obtain ⟨n0, n1⟩ := hn
  have hm6 : o % 6 < 6 := by omega
  clear hr er hV hk p1 p2 p3
  go_enter Tryd.func5, Tryd.ntmps5
  go_wp2_with fail
  refine (known6_any w HV.out).mono ?_
  rintro e w1 ⟨rfl, hb⟩
  have C1 := Lib.hid hb; clear hb
  have hcell : (w1.alloc (.cells pickCells 3)).cell? ⟨w1.heap.size, o % 6, none⟩ = some (.int .i64 (k : Nat)) := by
    rw [cell_blk (heap_alloc_new w1 _)]; exact hget
  unfold pickCells at hcell
  have hb2 := below_alloc w1 (.cells #[.int .i64 1, .int .i64 26, .int .i64 10, .int .i64 12, .int .i64 20, .int .i64 22] 3)
  obtain ⟨w2, hw2⟩ : ∃ w2, w1.alloc (.cells #[.int .i64 1, .int .i64 26, .int .i64 10, .int .i64 12, .int .i64 20, .int .i64 22] 3) = w2 := ⟨_, rfl⟩
  rw [hw2] at hcell hb2
  have C2 := Lib.hid (nextB C1.out hb2); clear hb2 C1
  obtain ⟨w3, b3, hw3, hb3, I3, B3⟩ := new_ib w2 k n
  have J3 := Lib.hid I3; have C3 := Lib.hid (nextB C2.out B3); clear I3 B3 C2
  have a0 := J3.out.c0; have a1 := J3.out.c1
  obtain ⟨m6, hm⟩ : ∃ m, o % 6 = m := ⟨_, rfl⟩
  rw [hm] at hcell hm6
  have em : (o : Int) % 6 = (m6 : Int) := by omega
  clear hget hm
  go_upto_region 5 with (fail)
  try rw [em]
  clear em
  go_cut [7] from 22 to 31 (fun s wx => s = .bool r ∧ wx = w3)
  case first =>
    cases hb1 : ((k : Int) == 1) with
    | true =>
      go_wp2_with fail
      go_meet
      exact ⟨congrArg Value.bool (by rw [ER.out, hb1]; simp), rfl⟩
    | false =>
      cases hb2 : ((k : Int) == 26) with
      | true =>
        go_wp2_with fail
        go_meet
        exact ⟨congrArg Value.bool (by rw [ER.out, hb1, hb2]; simp), rfl⟩
      | false =>
        go_wp2_with fail
        go_meet
        exact ⟨congrArg Value.bool (by rw [ER.out, hb1, hb2]; simp), rfl⟩
  case rest =>
    obtain ⟨rfl, hwc⟩ := hcut
    subst hwc
    clear hw2 hw3
    go_wp2_with fail
    refine (right_lit wc HR.out).mono ?_
    rintro e w4 ⟨rfl, hb⟩
    have J4 := Lib.hid (J3.out.below hb); have C4 := Lib.hid (nextB C3.out hb)
    clear hb J3 C3 a0 a1 hcell
    have a0 := J4.out.c0; have a1 := J4.out.c1
    cases r with
    | false =>
      go_wp2_with fail
      refine (putI_any k n w4 HN.out).mono ?_
      rintro e w5 ⟨v, rfl, hown, hb⟩
      rw [codeL_no HR.out] at hown
      have J5 := Lib.hid (J4.out.below hb); have C5 := Lib.hid (nextB C4.out hb)
      obtain ⟨A2, c2, rfl, _, _, _, _, _⟩ := Lies.of_own hown
      clear hb C4 J4 hown a0 a1
      have a0 := J5.out.c0; have a1 := J5.out.c1
      simp only [List.length_nil]
      go_wp2_with fail
      refine (text_lit w5 HN.out (HV.out.below C5.out) (show (⟨(textL k n).toArray⟩ : ByteArray) = ⟨#[]⟩ by rw [textL_no HR.out])).mono ?_
      rintro e w6 ⟨rfl, hb⟩
      have C6 := Lib.hid (nextB C5.out hb)
      clear hb C5
      go_wp2_with fail
      go_ret
      exact ⟨rfl, C6.out⟩
    | true =>
      have hz : argZ k ≠ 0 := HZ.out
      have hlen : Hid (2 ≤ (codeL k n).length ∧ (codeL k n).length ≤ 6) := Lib.hid (by
        rw [codeL_two HR.out hz, List.length_append, p6]
        have := enc32_length (argW_le n)
        omega)
      have hcb := Lib.hid (codeL_bytes k n)
      clear hz
      go_wp2_with fail
      refine (text_lit w4 HN.out (HV.out.below C4.out) rfl).mono ?_
      rintro e w5 ⟨rfl, hb⟩
      have J5 := Lib.hid (J4.out.below hb); have C5 := Lib.hid (nextB C4.out hb)
      clear hb C4 J4 a0 a1
      go_wp2_with fail
      refine (parseBack_any w5 HR.out HN.out (HV.out.below C5.out)).mono ?_
      rintro e w6 ⟨rfl, hb⟩
      have J6 := Lib.hid (J5.out.below hb); have C6 := Lib.hid (nextB C5.out hb)
      clear hb C5 J5
      obtain ⟨w7, b7, hw7, hb7, I7, B7⟩ := new_ib w6 k n
      have J7 := Lib.hid (J6.out.below B7); have C7 := Lib.hid (nextB C6.out B7); have K7 := Lib.hid I7
      clear J6 C6 I7 B7
      have a0 := J7.out.c0; have a1 := J7.out.c1
      unfold insV
      go_wp2_with fail
      refine (putI_any k n w7 HN.out).mono ?_
      rintro e w8 ⟨v, rfl, hown, hb⟩
      clear hw7
      have J8 := Lib.hid (J7.out.below hb); have C8 := Lib.hid (nextB C7.out hb); have K8 := Lib.hid (K7.out.below hb)
      obtain ⟨A, c, rfl, _, hm8, _, hl, _⟩ := Lies.of_own hown
      have HL := Lib.hid hl
      clear hb C7 J7 K7 hown hl a0 a1
      have hl20 := hlen.out.2
      obtain ⟨L, hL⟩ : ∃ L, codeL k n = L := ⟨_, rfl⟩
      rw [hL] at HL hlen hcb hl20 ⊢
      have HLL := Lib.hid hL; clear hL
      go_wp2_with fail
      refine (new_any w8.heap.size A c L w8 (by omega) (Nat.le_refl _) HL.out hcb.out).mono ?_
      rintro e w9 ⟨g, rfl, hg, R9, hb⟩
      have J9 := Lib.hid (J8.out.below hb); have C9 := Lib.hid (nextB C8.out hb); have K9 := Lib.hid (K8.out.below hb); have R9' := Lib.hid R9
      have hg0 : w.heap.size ≤ g := by have := C8.out.size; omega
      have hg1 : b3 < g := by have := J8.out.lt; omega
      have hg2 : b7 < g := by have := K8.out.lt; omega
      clear hb C8 J8 K8 R9 hg
      go_wp2_with fail
      refine (takeBack_any (more := []) (op := k) (arg := n) w9 HR.out HN.out (by rw [List.append_nil, HLL.out]; exact R9'.out)).mono ?_
      rintro e w10 ⟨rfl, R10, g10⟩
      have J10 := Lib.hid (show IB w10 b3 k n from (g10.block b3 J9.out.lt (by intro e; injection e; omega)).trans J9.out)
      have K10 := Lib.hid (show IB w10 b7 k n from (g10.block b7 K9.out.lt (by intro e; injection e; omega)).trans K9.out)
      have C10 := Lib.hid (C9.out.trans (below_of_grown g10 hg0 C9.out.size))
      clear R10 g10 C9 J9 K9 R9' hg0 hg1 hg2
      obtain ⟨w11, b11, hw11, hb11, I11, B11⟩ := new_ib w10 k n
      have J11 := Lib.hid (J10.out.below B11); have C11 := Lib.hid (nextB C10.out B11); have K11 := Lib.hid (K10.out.below B11); have L11 := Lib.hid I11
      clear J10 C10 K10 I11 B11
      have a0 := J11.out.c0; have a1 := J11.out.c1; have a2 := K11.out.c0; have a3 := K11.out.c1; have a4 := L11.out.c0; have a5 := L11.out.c1
      unfold insV
      go_wp2_with fail
      refine (putI_any k n w11 HN.out).mono ?_
      rintro e w12 ⟨v, rfl, hown, hb⟩
      clear hw11
      have J12 := Lib.hid (J11.out.below hb); have C12 := Lib.hid (nextB C11.out hb)
      rw [HLL.out] at hown
      obtain ⟨A3, c3, rfl, _, _, _, _, _⟩ := Lies.of_own hown
      clear hb C11 J11 hown a0 a1 a2 a3 a4 a5
      have a0 := J12.out.c0; have a1 := J12.out.c1
      obtain ⟨n2, n6⟩ := hlen.out
      have i2 : (2 : Int) ≤ L.length := by omega
      have i6 : (L.length : Int) ≤ 6 := by omega
      go_wp2_with fail
      refine (putI_any k n w12 HN.out).mono ?_
      rintro e w13 ⟨v, rfl, hown, hb⟩
      have C13 := Lib.hid (nextB C12.out hb)
      rw [HLL.out] at hown
      obtain ⟨A4, c4, rfl, _, _, _, _, _⟩ := Lies.of_own hown
      clear hb C12 hown a0 a1
      go_wp2_with fail
      go_ret
      exact ⟨rfl, C13.out⟩

/- The claim. -/

set_option maxRecDepth 100000 in
theorem lifted (os : Os) (started : os.Started) (H : Type) (enc : TypeId × Value → H) :
    ReturnsInHanded {} Tryd.checked os 5 .any (fun w args => (Rows.instrNumbersSpec.pre enc Tryd.prog Tryd.f5 [] false w args ∧ laidMetH Tryd.prog laidL w) ∧ sizedMet enc Tryd.prog Tryd.f5 (OpenSpec.ofChange Rows.instrNumbersSpec) false w args) (Rows.instrNumbersSpec.post enc Tryd.prog Tryd.f5 false true false false) := by
  refine returnsInHanded_of_change_and (C := Tryd.checked) (X := fun w _ => laidMetH Tryd.prog laidL w) (fun _ _ _ hh h => h.of_heap hh) ownKnobs started (by kernel_rfl) Tryd.func5
    (ChangeSpec.witness_shaped (enc := enc) (C := Tryd.checked) (os := os) (X := fun w _ => laidMetH Tryd.prog laidL w) false (World.doorLaid Tryd.prog 77 os) #[.int .i32 0, .int .u8 0] 8 rfl (World.shaped_of_RefB (by kernel_rfl) (by kernel_rfl)) (by kernel_rfl) (by kernel_rfl) (by kernel_rfl) (door_met os _)) ?_
  intro W base args ds gs before hval hW _ _ hL _
  have hN := vars_of_laid hL
  refine law_contract rfl rfl (fun ds h => by match ds, h with | [d1, d2], _ => rfl) (by decide +kernel) hW ?_
  obtain ⟨p, q, hA0, _⟩ := hW
  have hA : DataW.TrodAll enc Tryd.prog W 0 (fun _ => true) true Tryd.f5.params.toList args.toList ds p := hA0
  have hval' : ∀ (j : Nat) t v, Tryd.f5.params[j]? = some t → args[j]? = some v → Value.okWide Tryd.prog W .any base t v := hval
  rw [Tryd.params5] at hA hval'
  obtain ⟨v0, vs0, d0, ds0, p0, q0, hargs, rfl, rfl, h0, r0⟩ := trodAll_cons hA
  obtain ⟨v1, vs1, d1, ds1, p1, q1, rfl, rfl, rfl, h1, r1⟩ := trodAll_cons r0
  obtain ⟨rfl, rfl, rfl⟩ := trodAll_nil r1
  obtain rfl : args = #[v0, v1] := by cases args; simp_all
  obtain ⟨a0, rfl, rfl, rfl, w0⟩ := open_int Tryd.underlying21 (hval' 0 _ v0 rfl rfl) h0
  have b0 : -2147483648 ≤ a0 ∧ a0 ≤ 2147483647 := by simpa [Lit.wf, IntKind.min, IntKind.max, IntKind.signed, IntKind.bits] using w0
  obtain ⟨z1, rfl, rfl, rfl, w1⟩ := open_int Tryd.underlying5 (hval' 1 _ v1 rfl rfl) h1
  have b1 : 0 ≤ z1 ∧ z1 ≤ 255 := by simpa [Lit.wf, IntKind.min, IntKind.max, IntKind.signed, IntKind.bits] using w1
  obtain ⟨a1, rfl⟩ : ∃ n : Nat, z1 = n := ⟨z1.toNat, by omega⟩
  exact walk a0 a1 W b0 (by omega) hN

theorem proved : Rows.InstrNumbersSaid :=
  OpenClaim.holds_of_wide 5 Tryd.f5 rfl rfl rfl rfl rfl rfl rfl ⟨rfl, rfl, rfl, rfl, rfl⟩ rfl rfl rfl rfl rfl (by kernel_rfl) Tryd.func5 (by kernel_rfl)
    (of_decide_eq_true (by kernel_rfl)) (by unfold Func.isWrapper; first | (rw [if_pos (by decide +kernel)]; kernel_rfl) | (rw [if_neg (by decide +kernel)]; exact ⟨rfl, rfl⟩))
    (fun os started H enc _ => lifted os started H enc)

theorem card : Rows.InstrNumbersCardSaid :=
  Claim7.holds_tied_plain_at .later [] [.data, .data, .data, .data, .sentinel, .sentinel] true _ true
    proved (fun _ h => by cases h) (by kernel_rfl) (fun _ h => by cases h) instrNumbers_row_tie rfl ⟨rfl, rfl⟩ (by kernel_rfl) rfl
    (fun f fn hf hfn => by
      obtain rfl : f = 5 := Option.some.inj ((show Tryd.prog.funcNamed "confidant/confidantlaw6.InstrNumbers" = some 5 by kernel_rfl).symm.trans hf) |>.symm
      obtain rfl : fn = Tryd.f5 := (Option.some.inj (Tryd.func5.symm.trans hfn)).symm
      exact ⟨by kernel_rfl, fun j t ht => by
        rw [Tryd.params5] at ht
        have hm : t ∈ [21, 5] := by simpa using Array.mem_of_getElem? ht
        have hall : ([21, 5].all fun u => !Tryd.prog.wantsStandIn u) = true := by kernel_rfl
        exact (show Tryd.prog.wantsStandIn t = false by simpa using List.all_eq_true.1 hall t hm)⟩)
    (by kernel_rfl)

end Go.Proofs.YtmcniddpjpbghaaDoor.instrNumbers
