/- InputTells returns true for every input and changes nothing: Get and Len return the documented results for arbitrary labels and numbers. No condition. -/
import Derived.Test.YtnelaeafjejjgaaArg14
namespace Go.Proofs.Ytnelaeafjejjgaa.inputTells
set_option maxRecDepth 100000
open Go.RowKit Go.ChangeShapes Go.WideShapes Go.ChangeAt

theorem two_vals {k : IntKind} {w : World} {b : Nat} {x y lo hi : Int} (h0 : w.cell? ⟨b, 0, none⟩ = some (.int k x)) (h1 : w.cell? ⟨b, 1, none⟩ = some (.int k y)) (hx : lo ≤ x ∧ x ≤ hi) (hy : lo ≤ y ∧ y ≤ hi) {j : Nat} (hj : j < 2) :
    ∃ z, w.cell? ⟨b, j, none⟩ = some (.int k z) ∧ lo ≤ z ∧ z ≤ hi := by
  rcases (by omega : j = 0 ∨ j = 1) with rfl | rfl
  · exact ⟨x, h0, hx⟩
  · exact ⟨y, h1, hy⟩

set_option maxRecDepth 100000 in
set_option maxHeartbeats 16000000 in
theorem walk (lv : Value) (rs : List Rw32) (z1 z2 : Int) (q : Nat) (w : World) (ht : Tab32 w w.heap.size lv rs) (hmx : rs.length ≤ maxLen) (hmr : ∀ r ∈ rs, r.l.length ≤ maxLen)
    (h1 : -9223372036854775808 ≤ z1 ∧ z1 ≤ 9223372036854775807) (h2 : -2147483648 ≤ z2 ∧ z2 ≤ 2147483647) (hq : q ≤ 255) :
    Calls Try.prog 3 #[lv, .int .i64 z1, .int .i32 z2, .int .u8 q] w fun e w' => e = .returned (.bool true) ∧ Below w.heap.size w w' := by
  have HT := Lib.hid ht
  obtain ⟨A, c, rfl, hl, hr⟩ := ht
  have HL := Lib.hid hl; have HR := Lib.hid hr; have HMR := Lib.hid hmr
  clear hl hr hmr
  obtain ⟨N, hN⟩ : ∃ N, rs.length = N := ⟨_, rfl⟩
  have HN := Lib.hid hN
  rw [hN] at hmx HT ⊢
  unfold maxLen at hmx
  clear hN
  by_cases h20 : 20 < N
  · go_enter Try.func3, Try.ntmps3
    go_wp2_with fail
    refine (known14_any w).mono ?_
    rintro e w1 ⟨rfl, hb1⟩
    go_wp2_with fail
    go_ret
    exact ⟨rfl, hb1⟩
  have h20' : N ≤ 20 := by omega
  have H1 := Lib.hid h1; have H2 := Lib.hid h2
  clear h1 h2
  go_enter Try.func3, Try.ntmps3
  go_wp2_with fail
  refine (known14_any w).mono ?_
  rintro e w1 ⟨rfl, hb1⟩
  have B1 := Lib.hid hb1; clear hb1
  go_wp2_with fail
  go_loop [9] (fun i => ∃ k : Nat, k ≤ N ∧ i = .int .i64 k ∧ ∀ r ∈ rs.take k, r.l.length ≤ 70) (fun i => N - (intOf i).toNat)
  case atStart => exact ⟨0, Nat.zero_le _, rfl, fun r hr => by simp at hr⟩
  case round =>
    obtain ⟨k, hk, rfl, hj⟩ := hrel
    have HJ := Lib.hid hj; clear hj
    by_cases hkn : k < N
    · have hkl : k < rs.length := by rw [HN.out]; exact hkn
      obtain ⟨b, off, rfl, hb, c1⟩ := tab_row HL.out hkl
      have c2 : w1.cell? ⟨b, off + k, none⟩ = some (.slice rs[k].A rs[k].l.length rs[k].c) := by rw [B1.out.cell (p := ⟨b, off + k, none⟩) hb, c1]
      have hml := HMR.out rs[k] (List.getElem_mem hkl)
      have HTK := Lib.hid (List.take_succ_eq_append_getElem hkl)
      clear c1
      generalize rs[k] = r at *
      have HJ2 := Lib.hid (fun (h : r.l.length ≤ 70) => show ∀ r' ∈ rs.take (k + 1), r'.l.length ≤ 70 from fun r' hr' => by
        rw [HTK.out] at hr'
        rcases List.mem_append.1 hr' with h3 | h3
        · exact HJ.out r' h3
        · obtain rfl : r' = r := by simpa using h3
          exact h)
      generalize r.l.length = m at *
      unfold maxLen at hml
      by_cases h70 : 70 < m
      · go_wp2_with fail
        go_ret
        exact ⟨rfl, B1.out⟩
      · have HJ3 := Lib.hid (HJ2.out (by omega))
        go_wp2_with fail
        go_round
        case rel => exact ⟨k + 1, by omega, by go_num, HJ3.out⟩
        case measure => simp [intOf]; omega
    · obtain rfl : k = N := by omega
      have HALL : Hid (∀ r ∈ rs, r.l.length ≤ 70) := Lib.hid (fun r hr => HJ.out r (by rw [List.take_of_length_le (by rw [HN.out]; omega)]; exact hr))
      have HNEW := Lib.hid (newInput_any (.slice A k c) rs w1 ((HT.out.below B1.out).more B1.out.size) (by rw [HN.out]; omega) (fun r hr => by have := HALL.out r hr; omega))
      clear HJ hkn
      go_wp2_with fail
      refine HNEW.out.mono ?_
      rintro e w2 ⟨g, v, rs', rfl, hin, hls⟩
      have HLS := Lib.hid hls
      have HI := Lib.hid hin.inp
      have HGL := Lib.hid hin.glt
      have B2 := Lib.hid (B1.out.trans (hin.old.mono B1.out.size))
      have HLN : Hid (rs'.length ≤ 100000) := Lib.hid (by have := congrArg List.length hls; simp [listsOf] at this; have := HN.out; omega)
      clear hin hls HNEW
      have HGET := Lib.hid (fun p q w' (hb : Below w2.heap.size w2 w') (hp : -9223372036854775808 ≤ p ∧ p ≤ 9223372036854775807) (hq : -2147483648 ≤ q ∧ q ≤ 2147483647) => inGet_any _ g rs' p q w' (HI.out.below hb HGL.out) hp hq HLN.out)
      have HLEN := Lib.hid (fun p w' (hb : Below w2.heap.size w2 w') (hp : -9223372036854775808 ≤ p ∧ p ≤ 9223372036854775807) => inLen_any _ g rs' p w' (HI.out.below hb HGL.out) hp HLN.out)
      have HREF := Lib.hid (fun p q w' (hb : Below w.heap.size w w') (hp : -9223372036854775808 ≤ p ∧ p ≤ 9223372036854775807) (hq : -2147483648 ≤ q ∧ q ≤ 2147483647) => refInput_any w.heap.size (.slice A k c) rs p q w' (HT.out.below hb) hp hq (by rw [HN.out]; omega))
      rw [HLS.out] at HGET HLEN
      obtain ⟨wa, hwa⟩ : ∃ wa, wa = w2.alloc (.cells #[.int .i64 z1, .int .i64 ((q : Int) % 20 - 1)] 3) := ⟨_, rfl⟩
      have HPS := Lib.hid (fun i (hi : i < 2) => two_vals (k := .i64) (w := wa) (b := w2.heap.size) (x := z1) (y := (q : Int) % 20 - 1) (lo := -9223372036854775808) (hi := 9223372036854775807) (by rw [hwa, cell_blk (heap_alloc_new w2 _)]; rfl) (by rw [hwa, cell_blk (heap_alloc_new w2 _)]; rfl) H1.out (by omega) hi)
      have HBA : Hid (Below w2.heap.size w2 wa) := Lib.hid (by rw [hwa]; exact below_alloc w2 _)
      have HLA : Hid (w2.heap.size < wa.heap.size) := Lib.hid (by rw [hwa]; simp)
      have HWA := Lib.hid hwa
      clear hwa
      go_wp2_with fail
      rw [← HWA.out]
      go_loopw [46] (fun i wr => ∃ j : Nat, j ≤ 2 ∧ i = .int .i64 j ∧ Below wa.heap.size wa wr) (fun i _ => 2 - (intOf i).toNat)
      case atStart => exact ⟨0, by omega, rfl, Below.refl _ _⟩
      case round =>
        obtain ⟨j, hj, rfl, hbj⟩ := hrel
        obtain ⟨wj, rfl⟩ : ∃ wj : World, wj = wr := ⟨_, rfl⟩
        have BJ := Lib.hid hbj; clear hbj
        by_cases hj2 : j < 2
        · obtain ⟨pv, cp, hpv⟩ := HPS.out j hj2
          have cj : wj.cell? ⟨w2.heap.size, j, none⟩ = some (.int .i64 pv) := by rw [BJ.out.cell (p := ⟨w2.heap.size, j, none⟩) HLA.out, cp]
          have dj : decide ((j : Int) < 2) = true := by simp; omega
          have HPV := Lib.hid hpv
          clear cp hpv
          obtain ⟨wb, hwb⟩ : ∃ wb, wb = wj.alloc (.cells #[.int .i32 z2, .int .i32 ((q : Int) / 4 % 8 - 1)] 21) := ⟨_, rfl⟩
          have HQS := Lib.hid (fun i (hi : i < 2) => two_vals (k := .i32) (w := wb) (b := wj.heap.size) (x := z2) (y := (q : Int) / 4 % 8 - 1) (lo := -2147483648) (hi := 2147483647) (by rw [hwb, cell_blk (heap_alloc_new wj _)]; rfl) (by rw [hwb, cell_blk (heap_alloc_new wj _)]; rfl) H2.out (by omega) hi)
          have BB : Hid (Below wa.heap.size wa wb) := Lib.hid (by rw [hwb]; exact BJ.out.alloc BJ.out.size _)
          have B2B : Hid (Below w2.heap.size w2 wb) := Lib.hid (HBA.out.trans (BB.out.mono HBA.out.size))
          have B0B : Hid (Below w.heap.size w wb) := Lib.hid (B2.out.trans (B2B.out.mono B2.out.size))
          have HWB := Lib.hid hwb
          clear hwb
          go_wp2_with fail
          rw [← HWB.out]
          go_loopw [58] (fun i wr => ∃ a : Nat, a ≤ 2 ∧ i = .int .i64 a ∧ wb = wr) (fun i _ => 2 - (intOf i).toNat)
          case atStart => exact ⟨0, by omega, rfl, rfl⟩
          case round =>
            obtain ⟨a, ha, rfl, rfl⟩ := hrel
            by_cases ha2 : a < 2
            · obtain ⟨qv, cq, hqv⟩ := HQS.out a ha2
              have G1 := Lib.hid (HGET.out pv qv wb B2B.out HPV.out hqv)
              have G2 := Lib.hid (HREF.out pv qv wb B0B.out HPV.out hqv)
              unfold GotZ at G1 G2
              obtain ⟨x, hx⟩ : ∃ x, valZ (listsOf rs) pv qv = x := ⟨_, rfl⟩
              obtain ⟨y, hy⟩ : ∃ y, isZ (listsOf rs) pv qv = y := ⟨_, rfl⟩
              rw [hx, hy] at G1 G2
              have f1 : (x != x) = false := by simp
              have f2 : (y != y) = false := by simp
              clear hx hy hqv
              go_wp2_with fail
              with_reducible refine G1.out.mono ?_
              rintro e w' ⟨rfl, rfl⟩
              go_wp2_with fail
              with_reducible refine G2.out.mono ?_
              rintro e w' ⟨rfl, rfl⟩
              go_wp2_with fail
              clear f1 f2
              go_roundw
              case rel => exact ⟨a + 1, by omega, by go_num, trivial⟩
              case measure => simp [intOf]; omega
            · obtain rfl : a = 2 := by omega
              rw [show ((2 : Nat) : Int) = 2 from rfl]
              have HLP := Lib.hid (HLEN.out pv wb B2B.out HPV.out)
              by_cases hp0 : pv < 0
              · rw [lenZ_lo hp0] at HLP
                rw [show ((0 : Nat) : Int) = 0 from rfl] at HLP
                have e0 : decide (0 ≤ pv) = false := by simp; omega
                go_wp2_with fail
                with_reducible refine HLP.out.mono ?_
                rintro e w' ⟨rfl, rfl⟩
                go_wp2_with fail
                go_roundw
                case rel => exact ⟨j + 1, by omega, by go_num, BB.out⟩
                case measure => simp [intOf]; omega
              by_cases hp1 : (k : Int) ≤ pv
              · rw [lenZ_hi (by rw [HN.out]; exact hp1)] at HLP
                rw [show ((0 : Nat) : Int) = 0 from rfl] at HLP
                have e0 : decide (0 ≤ pv) = true := by simp; omega
                have e1 : decide (pv < (k : Int)) = false := by simp; omega
                go_wp2_with fail
                with_reducible refine HLP.out.mono ?_
                rintro e w' ⟨rfl, rfl⟩
                go_wp2_with fail
                go_roundw
                case rel => exact ⟨j + 1, by omega, by go_num, BB.out⟩
                case measure => simp [intOf]; omega
              · obtain ⟨t, rfl⟩ : ∃ t : Nat, pv = t := ⟨pv.toNat, by omega⟩
                have htl : t < rs.length := by rw [HN.out]; omega
                obtain ⟨b, off, rfl, hb, c1⟩ := tab_row HL.out htl
                have c2 : wb.cell? ⟨b, off + t, none⟩ = some (.slice rs[t].A rs[t].l.length rs[t].c) := by rw [B0B.out.cell (p := ⟨b, off + t, none⟩) hb, c1]
                rw [lenZ_in htl] at HLP
                clear c1
                generalize rs[t] = r at *
                generalize r.l.length = m at *
                have e1 : decide (t < k) = true := by simp; omega
                have e2 : ((m : Int) != (m : Int)) = false := by simp
                have i1 : (0 : Int) ≤ (t : Int) ∧ (t : Int) < k := by omega
                go_wp2_with fail
                with_reducible refine HLP.out.mono ?_
                rintro e w' ⟨rfl, rfl⟩
                go_wp2_with fail
                go_roundw
                case rel => exact ⟨j + 1, by omega, by go_num, BB.out⟩
                case measure => simp [intOf]; omega
        · obtain rfl : j = 2 := by omega
          go_wp2_with fail
          go_ret
          exact ⟨rfl, B2.out.trans ((HBA.out.trans (BJ.out.mono HBA.out.size)).mono B2.out.size)⟩

/- The claim. -/

set_option maxRecDepth 100000 in
theorem lifted (os : Os) (started : os.Started) (H : Type) (enc : TypeId × Value → H) :
    ReturnsInHanded {} Try.checked os 3 .any (Rows.inputTellsSpec.pre6 enc Try.prog Try.f3 Rows.inputTellsRow.domain false) (Rows.inputTellsSpec.post enc Try.prog Try.f3 false true false false) := by
  refine returnsInHanded_of_change (C := Try.checked) ownKnobs started (by kernel_rfl) Try.func3
    (ChangeSpec.witness6 (enc := enc) (C := Try.checked) false ⟨#[], #[.slice none 0 0, .int .i64 0, .int .i32 0, .int .u8 0], []⟩ 8 (by kernel_rfl) (by kernel_rfl) (by kernel_rfl) (by kernel_rfl)) ?_
  intro W base args ds gs before hval hW _ _
  refine law_contract rfl rfl (fun ds h => by match ds, h with | [d1, d2, d3, d4], _ => rfl) (by decide +kernel) hW ?_
  obtain ⟨p, q, hA0, _⟩ := hW
  have hA : DataW.TrodAll enc Try.prog W 0 (fun _ => true) true Try.f3.params.toList args.toList ds p := hA0
  have hval' : ∀ (j : Nat) t v, Try.f3.params[j]? = some t → args[j]? = some v → Value.okWide Try.prog W .any base t v := hval
  rw [Try.params3] at hA hval'
  obtain ⟨v0, vs0, d0, ds0, p0, q0, hargs, rfl, rfl, h0, r0⟩ := trodAll_cons hA
  obtain ⟨v1, vs1, d1, ds1, p1, q1, rfl, rfl, rfl, h1, r1⟩ := trodAll_cons r0
  obtain ⟨v2, vs2, d2, ds2, p2, q2, rfl, rfl, rfl, h2, r2⟩ := trodAll_cons r1
  obtain ⟨v3, vs3, d3, ds3, p3, q3, rfl, rfl, rfl, h3, r3⟩ := trodAll_cons r2
  obtain ⟨rfl, rfl, rfl⟩ := trodAll_nil r3
  obtain rfl : args = #[v0, v1, v2, v3] := by cases args; simp_all
  obtain ⟨l0, y0, m0, x0⟩ := open_tab32 (hval' 0 _ v0 rfl rfl) h0
  obtain ⟨a1, rfl, rfl, rfl, w1⟩ := open_int Try.underlying3 (hval' 1 _ v1 rfl rfl) h1
  have b1 : -9223372036854775808 ≤ a1 ∧ a1 ≤ 9223372036854775807 := by simpa [Lit.wf, IntKind.min, IntKind.max, IntKind.signed, IntKind.bits] using w1
  obtain ⟨a2, rfl, rfl, rfl, w2⟩ := open_int Try.underlying21 (hval' 2 _ v2 rfl rfl) h2
  have b2 : -2147483648 ≤ a2 ∧ a2 ≤ 2147483647 := by simpa [Lit.wf, IntKind.min, IntKind.max, IntKind.signed, IntKind.bits] using w2
  obtain ⟨z3, rfl, rfl, rfl, w3⟩ := open_int Try.underlying5 (hval' 3 _ v3 rfl rfl) h3
  have b3 : 0 ≤ z3 ∧ z3 ≤ 255 := by simpa [Lit.wf, IntKind.min, IntKind.max, IntKind.signed, IntKind.bits] using w3
  obtain ⟨a3, rfl⟩ : ∃ n : Nat, z3 = n := ⟨z3.toNat, by omega⟩
  exact walk v0 l0 a1 a2 a3 W y0 m0 x0 b1 b2 (by omega)

theorem proved : Rows.InputTellsSaid :=
  OpenClaim.holds_of_wide 3 Try.f3 rfl rfl rfl rfl rfl rfl rfl ⟨rfl, rfl, rfl, rfl, rfl⟩ rfl rfl rfl rfl rfl (by kernel_rfl) Try.func3 (by kernel_rfl)
    (of_decide_eq_true (by kernel_rfl)) (by unfold Func.isWrapper; first | (rw [if_pos (by decide +kernel)]; kernel_rfl) | (rw [if_neg (by decide +kernel)]; exact ⟨rfl, rfl⟩))
    (fun os started H enc _ => lifted os started H enc)

end Go.Proofs.Ytnelaeafjejjgaa.inputTells
