/- IdentTells returns true for every input and changes nothing: each identity, its parts, and which are valid, are the documented ones. No condition. -/
import Derived.Test.YtjnlgmjcabbaaabIdent
import Derived.Test.YtjnlgmjcabbaaabLaw
import Derived.Test.YtjnlgmjcabbaaabGrid
import Derived.Deep.QuietTactic
import Derived.BigQuiet
namespace Go.Proofs.Ytjnlgmjcabbaaab.identTells
set_option maxRecDepth 100000
open Go.RowKit Go.ChangeShapes Go.WideShapes Go.ChangeAt

theorem nextB {w w1 w2 : World} (h : Below w.heap.size w w1) (k : Below w1.heap.size w1 w2) : Below w.heap.size w w2 := h.trans (k.mono h.size)

/-- What Of answers, and the parts of what it answers. -/
theorem of_parts (l n : Int) : ∃ x z, ofZ l n = x ∧ ofB l n = z ∧ -2147483648 ≤ x ∧ x ≤ 2147483647 ∧ (z = true → labelZ x = l ∧ numberZ x = n) := by
  refine ⟨_, _, rfl, rfl, ?_⟩
  unfold ofZ
  cases h : ofB l n with
  | false => simp
  | true =>
    have h2 : 0 ≤ l ∧ l < 16 ∧ 0 ≤ n ∧ n < 65536 := by
      unfold ofB at h; simp at h; omega
    rw [if_pos rfl]
    refine ⟨by omega, by omega, fun _ => ?_⟩
    rw [labelZ_pos (by omega), numberZ_pos (by omega)]
    omega

set_option maxRecDepth 100000 in
set_option maxHeartbeats 8000000 in
theorem walk (id l n ls : Int) (k : Nat) (w : World) (hid : -2147483648 ≤ id ∧ id ≤ 2147483647) (hk : k ≤ 255) :
    Calls Try.prog 3 #[.int .i32 id, .int .i64 l, .int .i64 n, .int .i64 ls, .int .u8 k] w fun e w' => e = .returned (.bool true) ∧ Below w.heap.size w w' := by
  obtain ⟨u1, hu1⟩ : ∃ u, bits .and .i64 l 31 = u := ⟨_, rfl⟩
  obtain ⟨u2, hu2⟩ : ∃ u, bits .and .i64 n 131071 = u := ⟨_, rfl⟩
  obtain ⟨u3, hu3⟩ : ∃ u, bits .and .i64 n 65535 = u := ⟨_, rfl⟩
  obtain ⟨k18, hk18⟩ : ∃ u, (k : Int) % 18 = u := ⟨_, rfl⟩
  obtain ⟨x0, z0, hx0, hz0, p0, q0, r0⟩ := of_parts l n
  have HO0 := Lib.hid (fun w => hz0 ▸ hx0 ▸ of_any l n w)
  have HR0 := Lib.hid (fun w => hz0 ▸ hx0 ▸ refOf_any l n w)
  have HL0 := Lib.hid (fun (h : z0 = true) w => (r0 h).1 ▸ label_any x0 w ⟨p0, q0⟩)
  have HN0 := Lib.hid (fun (h : z0 = true) w => (r0 h).2 ▸ number_any x0 w ⟨p0, q0⟩)
  clear hx0 hz0 p0 q0 r0
  obtain ⟨x1, z1, hx1, hz1, p1, q1, r1⟩ := of_parts u1 u2
  have HO1 := Lib.hid (fun w => hz1 ▸ hx1 ▸ of_any u1 u2 w)
  have HR1 := Lib.hid (fun w => hz1 ▸ hx1 ▸ refOf_any u1 u2 w)
  have HL1 := Lib.hid (fun (h : z1 = true) w => (r1 h).1 ▸ label_any x1 w ⟨p1, q1⟩)
  have HN1 := Lib.hid (fun (h : z1 = true) w => (r1 h).2 ▸ number_any x1 w ⟨p1, q1⟩)
  clear hx1 hz1 p1 q1 r1
  obtain ⟨x2, z2, hx2, hz2, p2, q2, r2⟩ := of_parts k18 u3
  have HO2 := Lib.hid (fun w => hz2 ▸ hx2 ▸ of_any k18 u3 w)
  have HR2 := Lib.hid (fun w => hz2 ▸ hx2 ▸ refOf_any k18 u3 w)
  have HL2 := Lib.hid (fun (h : z2 = true) w => (r2 h).1 ▸ label_any x2 w ⟨p2, q2⟩)
  have HN2 := Lib.hid (fun (h : z2 = true) w => (r2 h).2 ▸ number_any x2 w ⟨p2, q2⟩)
  clear hx2 hz2 p2 q2 r2
  go_enter Try.func3, Try.ntmps3
  go_wp2_with fail
  refine (known11_any w).mono ?_
  rintro e w' ⟨rfl, rfl⟩
  obtain ⟨w2, hw2⟩ : ∃ w2, w2 = w'.alloc (.cells #[.int .i64 l, .int .i64 n, .int .i64 u1, .int .i64 u2, .int .i64 k18, .int .i64 u3] 23) := ⟨_, rfl⟩
  have hnew : w2.heap[w'.heap.size]? = some (.cells #[.int .i64 l, .int .i64 n, .int .i64 u1, .int .i64 u2, .int .i64 k18, .int .i64 u3] 23 (0, 0)) := by rw [hw2]; exact heap_alloc_new w' _
  have B1 := Lib.hid (show Below w'.heap.size w' w2 by rw [hw2]; exact below_alloc _ _)
  have hlt : w'.heap.size < w2.heap.size := (Array.getElem?_eq_some_iff.1 hnew).1
  have C0 := Lib.hid (cell_blk hnew 0); have C1 := Lib.hid (cell_blk hnew 1); have C2 := Lib.hid (cell_blk hnew 2); have C3 := Lib.hid (cell_blk hnew 3); have C4 := Lib.hid (cell_blk hnew 4); have C5 := Lib.hid (cell_blk hnew 5)
  have HLT := Lib.hid hlt
  clear hnew hlt
  go_wp2_with fail
  rw [← hw2]
  clear hw2
  rw [hk18]
  clear hk18 hu1 hu2 hu3
  go_loopw [37] (fun i wr => ∃ j : Nat, j ≤ 3 ∧ i = .int .i64 j ∧ Below w2.heap.size w2 wr) (fun i _ => 3 - (intOf i).toNat)
  case atStart => exact ⟨0, by omega, rfl, Below.refl _ _⟩
  case round =>
    obtain ⟨j, hj, rfl, hb⟩ := hrel
    have HB := Lib.hid hb; clear hb
    rcases (by omega : j = 0 ∨ j = 1 ∨ j = 2 ∨ j = 3) with rfl | rfl | rfl | rfl
    · have c1 := (HB.out.cell (p := ⟨w'.heap.size, 0, none⟩) HLT.out).trans C0.out
      have c2 := (HB.out.cell (p := ⟨w'.heap.size, 1, none⟩) HLT.out).trans C1.out
      go_wp2_with fail
      refine (HO0.out _).mono ?_
      rintro e wx ⟨rfl, rfl⟩
      go_wp2_with fail
      refine (HR0.out _).mono ?_
      rintro e wx ⟨rfl, rfl⟩
      have e1 : (x0 != x0) = false := bne_self_eq_false _
      have e2 : (z0 != z0) = false := bne_self_eq_false _
      cases z0 with
      | false =>
        go_wp2_with fail
        go_quiet (fail)
        go_wp2_with fail
        go_roundw
        case rel => exact ⟨1, by omega, rfl, below_drewN (HB.out.alloc HB.out.size _) _⟩
        case measure => simp [intOf]
      | true =>
        have HL := Lib.hid (HL0.out rfl); have HN := Lib.hid (HN0.out rfl)
        go_wp2_with fail
        go_quiet (first | (go_at_call 8; refine Calls.quiet_of_same (HL.out _)) | (go_at_call 9; refine Calls.quiet_of_same (HN.out _)) | fail)
        go_wp2_with fail
        go_roundw
        case rel => exact ⟨1, by omega, rfl, below_drewN (HB.out.alloc HB.out.size _) _⟩
        case measure => simp [intOf]
    · have c1 := (HB.out.cell (p := ⟨w'.heap.size, 2, none⟩) HLT.out).trans C2.out
      have c2 := (HB.out.cell (p := ⟨w'.heap.size, 3, none⟩) HLT.out).trans C3.out
      go_wp2_with fail
      refine (HO1.out _).mono ?_
      rintro e wx ⟨rfl, rfl⟩
      go_wp2_with fail
      refine (HR1.out _).mono ?_
      rintro e wx ⟨rfl, rfl⟩
      have e1 : (x1 != x1) = false := bne_self_eq_false _
      have e2 : (z1 != z1) = false := bne_self_eq_false _
      cases z1 with
      | false =>
        go_wp2_with fail
        go_quiet (fail)
        go_wp2_with fail
        go_roundw
        case rel => exact ⟨2, by omega, rfl, below_drewN (HB.out.alloc HB.out.size _) _⟩
        case measure => simp [intOf]
      | true =>
        have HL := Lib.hid (HL1.out rfl); have HN := Lib.hid (HN1.out rfl)
        go_wp2_with fail
        go_quiet (first | (go_at_call 8; refine Calls.quiet_of_same (HL.out _)) | (go_at_call 9; refine Calls.quiet_of_same (HN.out _)) | fail)
        go_wp2_with fail
        go_roundw
        case rel => exact ⟨2, by omega, rfl, below_drewN (HB.out.alloc HB.out.size _) _⟩
        case measure => simp [intOf]
    · have c1 := (HB.out.cell (p := ⟨w'.heap.size, 4, none⟩) HLT.out).trans C4.out
      have c2 := (HB.out.cell (p := ⟨w'.heap.size, 5, none⟩) HLT.out).trans C5.out
      go_wp2_with fail
      refine (HO2.out _).mono ?_
      rintro e wx ⟨rfl, rfl⟩
      go_wp2_with fail
      refine (HR2.out _).mono ?_
      rintro e wx ⟨rfl, rfl⟩
      have e1 : (x2 != x2) = false := bne_self_eq_false _
      have e2 : (z2 != z2) = false := bne_self_eq_false _
      cases z2 with
      | false =>
        go_wp2_with fail
        go_quiet (fail)
        go_wp2_with fail
        go_roundw
        case rel => exact ⟨3, by omega, rfl, below_drewN (HB.out.alloc HB.out.size _) _⟩
        case measure => simp [intOf]
      | true =>
        have HL := Lib.hid (HL2.out rfl); have HN := Lib.hid (HN2.out rfl)
        go_wp2_with fail
        go_quiet (first | (go_at_call 8; refine Calls.quiet_of_same (HL.out _)) | (go_at_call 9; refine Calls.quiet_of_same (HN.out _)) | fail)
        go_wp2_with fail
        go_roundw
        case rel => exact ⟨3, by omega, rfl, below_drewN (HB.out.alloc HB.out.size _) _⟩
        case measure => simp [intOf]
    · rw [show ((3 : Nat) : Int) = 3 from rfl]
      have HB1 := Lib.hid (nextB B1.out HB.out)
      clear HB B1 C0 C1 C2 C3 C4 C5 HLT HO0 HO1 HO2 HR0 HR1 HR2 HL0 HL1 HL2 HN0 HN1 HN2
      obtain ⟨v1, hv1⟩ : ∃ v, bits .and .i32 id 2097151 = v := ⟨_, rfl⟩
      obtain ⟨v2, hv2⟩ : ∃ v, wrap32 (-id) = v := ⟨_, rfl⟩
      have r1 : -2147483648 ≤ v1 ∧ v1 ≤ 2147483647 := by
        have h := wf_bits .and .i32 id 2097151
        rw [hv1] at h
        simpa [Lit.wf, IntKind.min, IntKind.max, IntKind.signed, IntKind.bits] using h
      have r2 : -2147483648 ≤ v2 ∧ v2 ≤ 2147483647 := by rw [← hv2]; unfold wrap32; omega
      obtain ⟨w4, hw4⟩ : ∃ w4, w4 = wr.alloc (.cells #[.int .i32 id, .int .i32 v1, .int .i32 v2] 21) := ⟨_, rfl⟩
      have hnew : w4.heap[wr.heap.size]? = some (.cells #[.int .i32 id, .int .i32 v1, .int .i32 v2] 21 (0, 0)) := by rw [hw4]; exact heap_alloc_new wr _
      have hlt : wr.heap.size < w4.heap.size := (Array.getElem?_eq_some_iff.1 hnew).1
      have B4 := Lib.hid (nextB HB1.out (show Below wr.heap.size wr w4 by rw [hw4]; exact below_alloc _ _))
      have CC : Hid (∀ j, j < 3 → ∃ X, w4.cell? ⟨wr.heap.size, j, none⟩ = some (.int .i32 X) ∧ -2147483648 ≤ X ∧ X ≤ 2147483647) := Lib.hid (fun j hj => by
        rw [cell_blk hnew]
        rcases (by omega : j = 0 ∨ j = 1 ∨ j = 2) with rfl | rfl | rfl
        · exact ⟨id, rfl, hid⟩
        · exact ⟨v1, rfl, r1⟩
        · exact ⟨v2, rfl, r2⟩)
      have HLT := Lib.hid hlt
      clear hnew hlt HB1 r1 r2 hid
      go_wp2_with fail
      rw [← hw4]
      clear hw4 hv1 hv2
      go_loopw [90] (fun i wq => ∃ j : Nat, j ≤ 3 ∧ i = .int .i64 j ∧ wq = w4) (fun i _ => 3 - (intOf i).toNat)
      case atStart => exact ⟨0, by omega, rfl, rfl⟩
      case round =>
        obtain ⟨j, hj, rfl, rfl⟩ := hrel
        by_cases hj3 : j < 3
        · obtain ⟨X, cX, x1, x2⟩ := CC.out j hj3
          obtain ⟨a1, h1⟩ : ∃ v, labelZ X = v := ⟨_, rfl⟩
          obtain ⟨a2, h2⟩ : ∃ v, numberZ X = v := ⟨_, rfl⟩
          obtain ⟨a3, h3⟩ : ∃ v, validB X ls = v := ⟨_, rfl⟩
          obtain ⟨a4, h4⟩ : ∃ v, validB X ((k : Int) % 20) = v := ⟨_, rfl⟩
          have Q1 := Lib.hid (fun w => h1 ▸ label_any X w ⟨x1, x2⟩); have Q1' := Lib.hid (fun w => h1 ▸ refLabel_any X w ⟨x1, x2⟩)
          have Q2 := Lib.hid (fun w => h2 ▸ number_any X w ⟨x1, x2⟩); have Q2' := Lib.hid (fun w => h2 ▸ refNumber_any X w ⟨x1, x2⟩)
          have Q3 := Lib.hid (fun w => h3 ▸ valid_any X ls w ⟨x1, x2⟩); have Q3' := Lib.hid (fun w => h3 ▸ refValid_any X ls w ⟨x1, x2⟩)
          have Q4 := Lib.hid (fun w => h4 ▸ valid_any X ((k : Int) % 20) w ⟨x1, x2⟩); have Q4' := Lib.hid (fun w => h4 ▸ refValid_any X ((k : Int) % 20) w ⟨x1, x2⟩)
          have e1 : (a1 != a1) = false := bne_self_eq_false _
          have e2 : (a2 != a2) = false := bne_self_eq_false _
          have e3 : (a3 != a3) = false := bne_self_eq_false _
          have e4 : (a4 != a4) = false := bne_self_eq_false _
          clear h1 h2 h3 h4
          go_wp2_with fail
          refine (Q1.out _).mono ?_
          rintro e wx ⟨rfl, rfl⟩
          go_wp2_with fail
          refine (Q1'.out _).mono ?_
          rintro e wx ⟨rfl, rfl⟩
          go_wp2_with fail
          refine (Q2.out _).mono ?_
          rintro e wx ⟨rfl, rfl⟩
          go_wp2_with fail
          refine (Q2'.out _).mono ?_
          rintro e wx ⟨rfl, rfl⟩
          go_wp2_with fail
          refine (Q3.out _).mono ?_
          rintro e wx ⟨rfl, rfl⟩
          go_wp2_with fail
          refine (Q3'.out _).mono ?_
          rintro e wx ⟨rfl, rfl⟩
          go_wp2_with fail
          refine (Q4.out _).mono ?_
          rintro e wx ⟨rfl, rfl⟩
          go_wp2_with fail
          refine (Q4'.out _).mono ?_
          rintro e wx ⟨rfl, rfl⟩
          go_wp2_with fail
          go_roundw
          case rel => exact ⟨j + 1, by omega, by go_num, trivial⟩
          case measure => simp [intOf]; omega
        · obtain rfl : j = 3 := by omega
          go_wp2_with fail
          go_ret
          exact ⟨rfl, B4.out⟩

/- The claim. -/

set_option maxRecDepth 100000 in
theorem lifted (os : Os) (started : os.Started) (H : Type) (enc : TypeId × Value → H) :
    ReturnsInHanded {} Try.checked os 3 .any (Rows.identTellsSpec.pre6 enc Try.prog Try.f3 Rows.identTellsRow.domain false) (Rows.identTellsSpec.post enc Try.prog Try.f3 false true false false) := by
  refine returnsInHanded_of_change (C := Try.checked) ownKnobs started (by kernel_rfl) Try.func3
    (ChangeSpec.witness6 (enc := enc) (C := Try.checked) false ⟨#[], #[.int .i32 0, .int .i64 0, .int .i64 0, .int .i64 0, .int .u8 0], []⟩ 8 (by kernel_rfl) (by kernel_rfl) (by kernel_rfl) (by kernel_rfl)) ?_
  intro W base args ds gs before hval hW _ _
  refine law_contract rfl rfl (fun ds h => by match ds, h with | [d1, d2, d3, d4, d5], _ => rfl) (by decide +kernel) hW ?_
  obtain ⟨p, q, hA0, _⟩ := hW
  have hA : DataW.TrodAll enc Try.prog W 0 (fun _ => true) true Try.f3.params.toList args.toList ds p := hA0
  have hval' : ∀ (j : Nat) t v, Try.f3.params[j]? = some t → args[j]? = some v → Value.okWide Try.prog W .any base t v := hval
  rw [Try.params3] at hA hval'
  obtain ⟨v0, vs0, d0, ds0, p0, q0, hargs, rfl, rfl, h0, r0⟩ := trodAll_cons hA
  obtain ⟨v1, vs1, d1, ds1, p1, q1, rfl, rfl, rfl, h1, r1⟩ := trodAll_cons r0
  obtain ⟨v2, vs2, d2, ds2, p2, q2, rfl, rfl, rfl, h2, r2⟩ := trodAll_cons r1
  obtain ⟨v3, vs3, d3, ds3, p3, q3, rfl, rfl, rfl, h3, r3⟩ := trodAll_cons r2
  obtain ⟨v4, vs4, d4, ds4, p4, q4, rfl, rfl, rfl, h4, r4⟩ := trodAll_cons r3
  obtain ⟨rfl, rfl, rfl⟩ := trodAll_nil r4
  obtain rfl : args = #[v0, v1, v2, v3, v4] := by cases args; simp_all
  obtain ⟨a0, rfl, rfl, rfl, w0⟩ := open_int Try.underlying21 (hval' 0 _ v0 rfl rfl) h0
  have b0 : -2147483648 ≤ a0 ∧ a0 ≤ 2147483647 := by simpa [Lit.wf, IntKind.min, IntKind.max, IntKind.signed, IntKind.bits] using w0
  obtain ⟨a1, rfl, rfl, rfl, w1⟩ := open_int Try.underlying3 (hval' 1 _ v1 rfl rfl) h1
  have b1 : -9223372036854775808 ≤ a1 ∧ a1 ≤ 9223372036854775807 := by simpa [Lit.wf, IntKind.min, IntKind.max, IntKind.signed, IntKind.bits] using w1
  obtain ⟨a2, rfl, rfl, rfl, w2⟩ := open_int Try.underlying3 (hval' 2 _ v2 rfl rfl) h2
  have b2 : -9223372036854775808 ≤ a2 ∧ a2 ≤ 9223372036854775807 := by simpa [Lit.wf, IntKind.min, IntKind.max, IntKind.signed, IntKind.bits] using w2
  obtain ⟨a3, rfl, rfl, rfl, w3⟩ := open_int Try.underlying3 (hval' 3 _ v3 rfl rfl) h3
  have b3 : -9223372036854775808 ≤ a3 ∧ a3 ≤ 9223372036854775807 := by simpa [Lit.wf, IntKind.min, IntKind.max, IntKind.signed, IntKind.bits] using w3
  obtain ⟨z4, rfl, rfl, rfl, w4⟩ := open_int Try.underlying5 (hval' 4 _ v4 rfl rfl) h4
  have b4 : 0 ≤ z4 ∧ z4 ≤ 255 := by simpa [Lit.wf, IntKind.min, IntKind.max, IntKind.signed, IntKind.bits] using w4
  obtain ⟨a4, rfl⟩ : ∃ n : Nat, z4 = n := ⟨z4.toNat, by omega⟩
  exact walk a0 a1 a2 a3 a4 W b0 (by omega)

theorem proved : Rows.IdentTellsSaid :=
  OpenClaim.holds_of_wide 3 Try.f3 rfl rfl rfl rfl rfl rfl rfl ⟨rfl, rfl, rfl, rfl, rfl⟩ rfl rfl rfl rfl rfl (by kernel_rfl) Try.func3 (by kernel_rfl)
    (of_decide_eq_true (by kernel_rfl)) (by unfold Func.isWrapper; first | (rw [if_pos (by decide +kernel)]; kernel_rfl) | (rw [if_neg (by decide +kernel)]; exact ⟨rfl, rfl⟩))
    (fun os started H enc _ => lifted os started H enc)

end Go.Proofs.Ytjnlgmjcabbaaab.identTells
