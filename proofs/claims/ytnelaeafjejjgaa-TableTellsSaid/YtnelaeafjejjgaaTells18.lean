/- TableTells returns true for every input and changes nothing: all functions of package table return the documented results. No condition. -/
import Derived.Test.YtnelaeafjejjgaaKnown18
import Derived.Test.YtnelaeafjejjgaaRef18
import Derived.Test.YtnelaeafjejjgaaMk18
import Derived.Test.YtnelaeafjejjgaaEv18
namespace Go.Proofs.Ytnelaeafjejjgaa.tableTells
set_option maxRecDepth 100000
open Go.RowKit Go.ChangeShapes Go.WideShapes Go.ChangeAt

set_option maxRecDepth 100000 in
set_option maxHeartbeats 16000000 in
theorem walk (rv lv : Value) (L l : List Int) (z2 z3 z4 z5 : Int) (q : Nat) (w : World) (hr : CapV w w.heap.size rv L) (hrx : L.length ≤ maxLen) (hl : BytV w w.heap.size lv l) (hmx : l.length ≤ maxLen) (hy : IsByt l) (hq : q ≤ 255) :
    Calls Try.prog 11 #[rv, lv, .int .i64 z2, .int .i64 z3, .int .i64 z4, .int .i64 z5, .int .u8 q] w fun e w' => e = .returned (.bool true) ∧ Below w.heap.size w w' := by
  have HR := Lib.hid hr; clear hr
  obtain ⟨A, c, rfl, hcp, hl⟩ := hl
  have HL := Lib.hid hl; have HY := Lib.hid hy; clear hl hy
  obtain ⟨n, hn⟩ : ∃ n, l.length = n := ⟨_, rfl⟩
  have HN := Lib.hid hn
  rw [hn] at hmx hcp ⊢
  unfold maxLen at hmx hrx
  clear hn
  obtain ⟨A5, c5, rfl, hcp5, hl5⟩ := HR.out
  clear hcp5 hl5
  obtain ⟨nL, hnL⟩ : ∃ nL, L.length = nL := ⟨_, rfl⟩
  have HNL := Lib.hid hnL
  rw [hnL] at hrx ⊢
  clear hnL
  by_cases hs : 80 < nL
  · skip
    go_enter Try.func11, Try.ntmps11
    go_wp2_with fail
    refine (known18_any w).mono ?_
    rintro e w1 ⟨rfl, hb1⟩
    go_wp2_with fail
    go_ret
    exact ⟨rfl, hb1⟩
  by_cases hs : 70 < n
  · skip
    go_enter Try.func11, Try.ntmps11
    go_wp2_with fail
    refine (known18_any w).mono ?_
    rintro e w1 ⟨rfl, hb1⟩
    go_wp2_with fail
    go_ret
    exact ⟨rfl, hb1⟩
  have hk64 : n ≤ 70 := by omega
  have hL80 : L.length ≤ 80 := by rw [HNL.out]; omega
  obtain ⟨g1, ff, F, hg1, hg2, hrf, hF⟩ := clamp z4
  obtain ⟨g2, oo, O, hg3, hg4, hro, hO⟩ := clamp z5
  have HRF := Lib.hid hrf; have HRO := Lib.hid hro
  clear hrf hro
  go_enter Try.func11, Try.ntmps11
  go_wp2_with fail
  refine (known18_any w).mono ?_
  rintro e w1 ⟨rfl, hb1⟩
  have B1 := Lib.hid hb1; clear hb1
  go_wp2_with fail
  go_loopw [15, 16] (fun v i wr => ∃ k : Nat, k ≤ n ∧ i = .int .i64 k ∧ OwnN wr w1.heap.size v (modL 5 (l.take k)) ∧ Below w1.heap.size w1 wr) (fun _ i _ => n - (intOf i).toNat)
  case atStart => exact ⟨0, Nat.zero_le _, rfl, by simpa [modL] using OwnN.nil w1 w1.heap.size, Below.refl _ _⟩
  case round =>
    obtain ⟨k, hk, rfl, ho, hb⟩ := hrel
    have hsz := hb.size
    have HO := Lib.hid ho; have HB := Lib.hid hb; clear ho hb
    by_cases hkn : k < n
    · have hkl : k < l.length := by rw [HN.out]; exact hkn
      obtain ⟨b, off, rfl, hbb, c1⟩ := lie_u8 HL.out hkl
      have hx := HY.out l[k] (List.getElem_mem hkl)
      have c2 : wr.cell? ⟨b, off + k, none⟩ = some (.int .u8 l[k]) := by
        rw [HB.out.cell (p := ⟨b, off + k, none⟩) (by have := B1.out.size; show b < _; omega), B1.out.cell (p := ⟨b, off + k, none⟩) hbb, c1]
      have HS := Lib.hid (modL_step (M := 5) hkl)
      have hlen : (modL 5 (l.take k)).length = k := by rw [modL_length, List.length_take]; omega
      have hbw : b < w1.heap.size ∧ b < wr.heap.size := by have := B1.out.size; omega
      clear c1 hbb
      obtain ⟨x, hxx⟩ : ∃ x, l[k] = x := ⟨_, rfl⟩
      rw [hxx] at c2 hx HS
      clear hxx
      obtain ⟨y, hy⟩ : ∃ y, x % 5 = y := ⟨_, rfl⟩
      rw [hy] at HS
      have hy2 : 0 ≤ y ∧ y < 5 := by omega
      have HO2 := Lib.hid (HO.out.alloc (.cells #[.int .i64 y] 3))
      have HLEN := Lib.hid hlen; clear hlen
      go_wp2_with (at_builtin; go_must (refine wpList_append_L 27 3 _ 8 Try.underlying27 inf_int rfl rfl _ _ rfl w1.heap.size _ _ _ rfl HO2.out (wr.heap.size + 1) _ 1 1 [.int .i64 y] rfl rfl (lies_new wr [.int .i64 y] 3) ?c2 ?c3 ?c4 ?c5 ?_))
      case c2 => intro u hu; simp at hu; subst hu; rfl
      case c3 => have := HLEN.out; omega
      case c4 => omega
      case c5 => simp; omega
      intro v3 w3 ho3 _ hb3
      have HO3 := Lib.hid (OwnN.snoc rfl ho3 HS.out); clear ho3
      have HB3 := Lib.hid ((HB.out.trans ((below_alloc wr (.cells #[.int .i64 y] 3)).mono hsz)).trans hb3)
      clear hb3
      go_wp2_with fail
      go_roundw
      case rel => exact ⟨k + 1, by omega, by go_num, HO3.out, HB3.out⟩
      case measure => simp [intOf]; omega
    · obtain rfl : k = n := by omega
      have HT : Hid (modL 5 (l.take k) = modL 5 l) := Lib.hid (by rw [List.take_of_length_le (by rw [HN.out]; omega)])
      have HV := Lib.hid HO.out.cap
      rw [HT.out] at HV
      have HTL : Hid ((modL 5 l).length = k) := Lib.hid (by rw [modL_length, HN.out])
      have HTR := Lib.hid (modL_range (M := 5) (by decide) (l := l))
      clear HO HT
      obtain ⟨T, hT⟩ : ∃ T, modL 5 l = T := ⟨_, rfl⟩
      rw [hT] at HV HTL HTR
      clear hT hkn
      obtain ⟨wo, rfl⟩ : ∃ wo : World, wo = wr := ⟨_, rfl⟩
      have HRW : Hid (CapV wo wo.heap.size (.slice A5 L.length c5) L) := Lib.hid ((HR.out.below (B1.out.trans (HB.out.mono B1.out.size))).more (by have := B1.out.size; have := HB.out.size; omega))
      obtain ⟨A2, cp2, rfl, hcp2, hl2⟩ := HV.out
      clear hcp2 hl2
      obtain ⟨wa, hwa⟩ : ∃ wa, wa = wo.alloc (.cells #[.slice A5 L.length c5, .slice A2 T.length cp2] 27) := ⟨_, rfl⟩
      have c40 : wa.cell? ⟨wo.heap.size, 0, none⟩ = some (.slice A5 L.length c5) := by rw [hwa, cell_blk (heap_alloc_new wo _)]; rfl
      have c41 : wa.cell? ⟨wo.heap.size, 1, none⟩ = some (.slice A2 T.length cp2) := by rw [hwa, cell_blk (heap_alloc_new wo _)]; rfl
      have hba : Below wo.heap.size wo wa := by rw [hwa]; exact below_alloc wo _
      have HBA := Lib.hid hba
      have HLO : Hid (wo.heap.size < wa.heap.size) := Lib.hid (by rw [hwa]; simp)
      have HXS := Lib.hid (fun j (hj : j < 2) => two_lists c40 c41 ((HRW.out.below hba).more hba.size) ((HV.out.below hba).more hba.size) hL80 (by rw [HTL.out]; omega) hj)
      have HWA := Lib.hid hwa
      rw [HTL.out, HNL.out] at HWA
      rw [HTL.out]
      clear hwa hba c40 c41 HV HRW
      go_wp2_with fail
      rw [← HWA.out]
      go_loopw [60] (fun i wr => ∃ j : Nat, j ≤ 2 ∧ i = .int .i64 j ∧ Below wa.heap.size wa wr) (fun i _ => 2 - (intOf i).toNat)
      case atStart => exact ⟨0, by omega, rfl, Below.refl _ _⟩
      case round =>
        obtain ⟨j, hj, rfl, hbj⟩ := hrel
        obtain ⟨wj, rfl⟩ : ∃ wj : World, wj = wr := ⟨_, rfl⟩
        have BJ := Lib.hid hbj; clear hbj
        by_cases hj2 : j < 2
        · obtain ⟨xv, X, cx, hX, hXl⟩ := HXS.out j hj2
          have cj : wj.cell? ⟨wo.heap.size, j, none⟩ = some xv := by rw [BJ.out.cell (p := ⟨wo.heap.size, j, none⟩) HLO.out, cx]
          have dj : decide ((j : Int) < 2) = true := by simp; omega
          have HX := Lib.hid hX
          obtain ⟨A3, cp3, rfl, hcp3, hl3⟩ := hX
          clear hcp3 hl3 cx
          have HR1 := Lib.hid (fun n w' (hb : Below wa.heap.size wa w') => right18_any n w' (HX.out.below hb).ints (by omega))
          have HR2 := Lib.hid (fun n w' (hb : Below wa.heap.size wa w') => refRight18_any n w' (HX.out.below hb).ints (by omega))
          have HL1 := Lib.hid (fun n w' (hb : Below wa.heap.size wa w') => all18_any n w' (HX.out.below hb).ints (by omega))
          have HL2 := Lib.hid (fun n w' (hb : Below wa.heap.size wa w') => refAll18_any n w' (HX.out.below hb).ints (by omega))
          have HA1 := Lib.hid (fun (_ : Int) w' (hb : Below wa.heap.size wa w') => atE_any ff F w' (HX.out.below hb) (by omega) HRF.out (by omega))
          have HA2 := Lib.hid (fun (_ : Int) w' (hb : Below wa.heap.size wa w') => refAtE_any ff F w' (HX.out.below hb) (by omega) HRF.out (by omega))
          have HN1 := Lib.hid (fun c w' (hb : Below wa.heap.size wa w') => next18_any c ff F w' (HX.out.below hb).ints (by omega) HRF.out (by omega))
          have HN2 := Lib.hid (fun c w' (hb : Below wa.heap.size wa w') => refNext18_any c ff F w' (HX.out.below hb).ints (by omega) HRF.out (by omega))
          have HS1 := Lib.hid (fun c w' (hb : Below wa.heap.size wa w') => slE_any c ff oo F O w' (HX.out.below hb) (by omega) HRF.out (by omega) HRO.out (by omega))
          have HS2 := Lib.hid (fun c w' (hb : Below wa.heap.size wa w') => refSlE_any c ff oo F O w' (HX.out.below hb) (by omega) HRF.out (by omega) HRO.out (by omega))
          have HT1 := Lib.hid (fun c w' (hb : Below wa.heap.size wa w') => slE_any c (q : Int) ((q : Int) + (q : Int) / 3) q (q + q / 3) w' (HX.out.below hb) (by omega) (.inr ⟨by omega, rfl⟩) (by omega) (.inr ⟨by omega, by omega⟩) (by omega))
          have HT2 := Lib.hid (fun c w' (hb : Below wa.heap.size wa w') => refSlE_any c (q : Int) ((q : Int) + (q : Int) / 3) q (q + q / 3) w' (HX.out.below hb) (by omega) (.inr ⟨by omega, rfl⟩) (by omega) (.inr ⟨by omega, by omega⟩) (by omega))
          obtain ⟨nX, hnX⟩ : ∃ nX, X.length = nX := ⟨_, rfl⟩
          rw [hnX] at HR1 HR2 HL1 HL2 HA1 HA2 HN1 HN2 HS1 HS2 HT1 HT2 cj
          obtain ⟨wb, hwb⟩ : ∃ wb, wb = wj.alloc (.cells #[.int .i64 z2, .int .i64 ((q : Int) % 7)] 3) := ⟨_, rfl⟩
          have HI := Lib.hid (fun i (hi : i < 2) => two_ints (w := wb) (b := wj.heap.size) (x := z2) (y := (q : Int) % 7) (by rw [hwb, cell_blk (heap_alloc_new wj _)]; rfl) (by rw [hwb, cell_blk (heap_alloc_new wj _)]; rfl) hi)
          have BB : Hid (Below wa.heap.size wa wb) := Lib.hid (by rw [hwb]; exact BJ.out.alloc BJ.out.size _)
          have HBL : Hid (wj.heap.size < wb.heap.size) := Lib.hid (by rw [hwb]; simp)
          have HWB := Lib.hid hwb
          clear hwb hnX HXS
          go_wp2_with fail
          rw [← HWB.out]
          go_loopw [70] (fun i wr => ∃ a : Nat, a ≤ 2 ∧ i = .int .i64 a ∧ wb = wr) (fun i _ => 2 - (intOf i).toNat)
          case atStart => exact ⟨0, by omega, rfl, rfl⟩
          case round =>
            obtain ⟨a, ha, rfl, rfl⟩ := hrel
            by_cases ha2 : a < 2
            · obtain ⟨nv, cn⟩ := HI.out a ha2
              have G1 := Lib.hid (HR1.out nv wb BB.out)
              have G2 := Lib.hid (HR2.out nv wb BB.out)
              have G3 := Lib.hid (HL1.out nv wb BB.out)
              have G4 := Lib.hid (HL2.out nv wb BB.out)
              obtain ⟨r1, hr1⟩ : ∃ r1, rightZ X nv = r1 := ⟨_, rfl⟩
              obtain ⟨r2, hr2⟩ : ∃ r2, allZ X nv = r2 := ⟨_, rfl⟩
              rw [hr1] at G1 G2; rw [hr2] at G3 G4
              have f1 : (r1 != r1) = false := by simp
              have f2 : (r2 != r2) = false := by simp
              clear hr1 hr2
              go_wp2_with fail
              refine G1.out.mono ?_
              rintro e w' ⟨rfl, rfl⟩
              go_wp2_with fail
              refine G2.out.mono ?_
              rintro e w' ⟨rfl, rfl⟩
              go_wp2_with fail
              refine G3.out.mono ?_
              rintro e w' ⟨rfl, rfl⟩
              go_wp2_with fail
              refine G4.out.mono ?_
              rintro e w' ⟨rfl, rfl⟩
              go_wp2_with fail
              clear f1 f2
              go_roundw
              case rel => exact ⟨a + 1, by omega, by go_num, trivial⟩
              case measure => simp [intOf]; omega
            · obtain rfl : a = 2 := by omega
              rw [show ((2 : Nat) : Int) = 2 from rfl]
              obtain ⟨wc, hwc⟩ : ∃ wc, wc = wb.alloc (.cells #[.int .i64 z3, .int .i64 ((q : Int) % 6)] 3) := ⟨_, rfl⟩
              have HI2 := Lib.hid (fun i (hi : i < 2) => two_ints (w := wc) (b := wb.heap.size) (x := z3) (y := (q : Int) % 6) (by rw [hwc, cell_blk (heap_alloc_new wb _)]; rfl) (by rw [hwc, cell_blk (heap_alloc_new wb _)]; rfl) hi)
              have BC : Hid (Below wa.heap.size wa wc) := Lib.hid (by rw [hwc]; exact BB.out.alloc BB.out.size _)
              have HCL : Hid (wb.heap.size < wc.heap.size) := Lib.hid (by rw [hwc]; simp)
              have HWC := Lib.hid hwc
              clear hwc
              go_wp2_with fail
              rw [← HWC.out]
              go_loopw [97] (fun i wr => ∃ (b : Nat) (m : Nat), b ≤ 2 ∧ i = .int .i64 b ∧ wr = wc.drewN m) (fun i _ => 2 - (intOf i).toNat)
              case atStart => exact ⟨0, 0, by omega, rfl, rfl⟩
              case round =>
                obtain ⟨b, m, hb, rfl, rfl⟩ := hrel
                by_cases hb2 : b < 2
                · obtain ⟨cv, cc⟩ := HI2.out b hb2
                  have cc2 : (wc.drewN m).cell? ⟨wb.heap.size, b, none⟩ = some (.int .i64 cv) := cc
                  have BW : Below wa.heap.size wa wc := BC.out
                  have HBW := Lib.hid (fun n => below_drewN BC.out n)
                  clear BW cc
                  have G1 := Lib.hid (fun n => HA1.out cv (wc.drewN n) (HBW.out n))
                  have G2 := Lib.hid (fun n => HA2.out cv (wc.drewN n) (HBW.out n))
                  have G3 := Lib.hid (fun n => HN1.out cv (wc.drewN n) (HBW.out n))
                  have G4 := Lib.hid (fun n => HN2.out cv (wc.drewN n) (HBW.out n))
                  have G5 := Lib.hid (fun n => HS1.out cv (wc.drewN n) (HBW.out n))
                  have G6 := Lib.hid (fun n => HS2.out cv (wc.drewN n) (HBW.out n))
                  have G7 := Lib.hid (fun n => HT1.out cv (wc.drewN n) (HBW.out n))
                  have G8 := Lib.hid (fun n => HT2.out cv (wc.drewN n) (HBW.out n))
                  obtain ⟨r1, hr1⟩ : ∃ r1, atE X F = r1 := ⟨_, rfl⟩
                  obtain ⟨r2, hr2⟩ : ∃ r2, nextN X cv F = r2 := ⟨_, rfl⟩
                  obtain ⟨r3, hr3⟩ : ∃ r3 : Int, ((slE X cv F O : Nat) : Int) = r3 := ⟨_, rfl⟩
                  obtain ⟨r4, hr4⟩ : ∃ r4 : Int, ((slE X cv q (q + q / 3) : Nat) : Int) = r4 := ⟨_, rfl⟩
                  rw [hr1] at G1 G2; rw [hr2] at G3 G4; rw [hr3] at G5 G6; rw [hr4] at G7 G8
                  have f1 : (r1 != r1) = false := by simp
                  have f2 : (r2 != r2) = false := by simp
                  have f3 : (r3 != r3) = false := by simp
                  have f4 : (r4 != r4) = false := by simp
                  clear hr1 hr2 hr3 hr4
                  go_wp2_with fail
                  refine (G1.out _).mono ?_
                  rintro e w' ⟨rfl, m1, rfl⟩
                  rw [World.drewN_drewN]
                  go_wp2_with fail
                  refine (G2.out _).mono ?_
                  rintro e w' ⟨rfl, m2, rfl⟩
                  rw [World.drewN_drewN]
                  go_wp2_with fail
                  refine (G3.out _).mono ?_
                  rintro e w' ⟨rfl, m3, rfl⟩
                  rw [World.drewN_drewN]
                  go_wp2_with fail
                  refine (G4.out _).mono ?_
                  rintro e w' ⟨rfl, m4, rfl⟩
                  rw [World.drewN_drewN]
                  go_wp2_with fail
                  refine (G5.out _).mono ?_
                  rintro e w' ⟨rfl, m5, rfl⟩
                  rw [World.drewN_drewN]
                  go_wp2_with fail
                  refine (G6.out _).mono ?_
                  rintro e w' ⟨rfl, m6, rfl⟩
                  rw [World.drewN_drewN]
                  go_wp2_with fail
                  refine (G7.out _).mono ?_
                  rintro e w' ⟨rfl, m7, rfl⟩
                  rw [World.drewN_drewN]
                  go_wp2_with fail
                  refine (G8.out _).mono ?_
                  rintro e w' ⟨rfl, m8, rfl⟩
                  rw [World.drewN_drewN]
                  go_wp2_with fail
                  clear f1 f2 f3 f4
                  go_roundw
                  case rel => exact ⟨b + 1, _, by omega, by go_num, rfl⟩
                  case measure => simp [intOf]; omega
                · obtain rfl : b = 2 := by omega
                  have BE := Lib.hid (below_drewN BC.out m)
                  go_wp2_with fail
                  go_roundw
                  case rel => exact ⟨j + 1, by omega, by go_num, BE.out⟩
                  case measure => simp [intOf]; omega
        · obtain rfl : j = 2 := by omega
          go_wp2_with fail
          go_ret
          exact ⟨rfl, B1.out.trans (((HB.out.trans (HBA.out.mono HB.out.size)).trans (BJ.out.mono (by have := HB.out.size; have := HBA.out.size; omega))).mono B1.out.size)⟩

/- The claim. -/

set_option maxRecDepth 100000 in
theorem lifted (os : Os) (started : os.Started) (H : Type) (enc : TypeId × Value → H) :
    ReturnsInHanded {} Try.checked os 11 .any (Rows.tableTellsSpec.pre6 enc Try.prog Try.f11 Rows.tableTellsRow.domain false) (Rows.tableTellsSpec.post enc Try.prog Try.f11 false true false false) := by
  refine returnsInHanded_of_change (C := Try.checked) ownKnobs started (by kernel_rfl) Try.func11
    (ChangeSpec.witness6 (enc := enc) (C := Try.checked) false ⟨#[], #[.slice none 0 0, .slice none 0 0, .int .i64 0, .int .i64 0, .int .i64 0, .int .i64 0, .int .u8 0], []⟩ 8 (by kernel_rfl) (by kernel_rfl) (by kernel_rfl) (by kernel_rfl)) ?_
  intro W base args ds gs before hval hW _ _
  refine law_contract rfl rfl (fun ds h => by match ds, h with | [d1, d2, d3, d4, d5, d6, d7], _ => rfl) (by decide +kernel) hW ?_
  obtain ⟨p, q, hA0, _⟩ := hW
  have hA : DataW.TrodAll enc Try.prog W 0 (fun _ => true) true Try.f11.params.toList args.toList ds p := hA0
  have hval' : ∀ (j : Nat) t v, Try.f11.params[j]? = some t → args[j]? = some v → Value.okWide Try.prog W .any base t v := hval
  rw [Try.params11] at hA hval'
  obtain ⟨v0, vs0, d0, ds0, p0, q0, hargs, rfl, rfl, h0, r0⟩ := trodAll_cons hA
  obtain ⟨v1, vs1, d1, ds1, p1, q1, rfl, rfl, rfl, h1, r1⟩ := trodAll_cons r0
  obtain ⟨v2, vs2, d2, ds2, p2, q2, rfl, rfl, rfl, h2, r2⟩ := trodAll_cons r1
  obtain ⟨v3, vs3, d3, ds3, p3, q3, rfl, rfl, rfl, h3, r3⟩ := trodAll_cons r2
  obtain ⟨v4, vs4, d4, ds4, p4, q4, rfl, rfl, rfl, h4, r4⟩ := trodAll_cons r3
  obtain ⟨v5, vs5, d5, ds5, p5, q5, rfl, rfl, rfl, h5, r5⟩ := trodAll_cons r4
  obtain ⟨v6, vs6, d6, ds6, p6, q6, rfl, rfl, rfl, h6, r6⟩ := trodAll_cons r5
  obtain ⟨rfl, rfl, rfl⟩ := trodAll_nil r6
  obtain rfl : args = #[v0, v1, v2, v3, v4, v5, v6] := by cases args; simp_all
  obtain ⟨l0, h0, m0, x0⟩ := open_listcap (hval' 0 _ v0 rfl rfl) h0
  obtain ⟨l1, h1, m1, y1⟩ := open_bytv (hval' 1 _ v1 rfl rfl) h1
  obtain ⟨a2, rfl, rfl, rfl, w2⟩ := open_int Try.underlying3 (hval' 2 _ v2 rfl rfl) h2
  have b2 : -9223372036854775808 ≤ a2 ∧ a2 ≤ 9223372036854775807 := by simpa [Lit.wf, IntKind.min, IntKind.max, IntKind.signed, IntKind.bits] using w2
  obtain ⟨a3, rfl, rfl, rfl, w3⟩ := open_int Try.underlying3 (hval' 3 _ v3 rfl rfl) h3
  have b3 : -9223372036854775808 ≤ a3 ∧ a3 ≤ 9223372036854775807 := by simpa [Lit.wf, IntKind.min, IntKind.max, IntKind.signed, IntKind.bits] using w3
  obtain ⟨a4, rfl, rfl, rfl, w4⟩ := open_int Try.underlying3 (hval' 4 _ v4 rfl rfl) h4
  have b4 : -9223372036854775808 ≤ a4 ∧ a4 ≤ 9223372036854775807 := by simpa [Lit.wf, IntKind.min, IntKind.max, IntKind.signed, IntKind.bits] using w4
  obtain ⟨a5, rfl, rfl, rfl, w5⟩ := open_int Try.underlying3 (hval' 5 _ v5 rfl rfl) h5
  have b5 : -9223372036854775808 ≤ a5 ∧ a5 ≤ 9223372036854775807 := by simpa [Lit.wf, IntKind.min, IntKind.max, IntKind.signed, IntKind.bits] using w5
  obtain ⟨z6, rfl, rfl, rfl, w6⟩ := open_int Try.underlying5 (hval' 6 _ v6 rfl rfl) h6
  have b6 : 0 ≤ z6 ∧ z6 ≤ 255 := by simpa [Lit.wf, IntKind.min, IntKind.max, IntKind.signed, IntKind.bits] using w6
  obtain ⟨a6, rfl⟩ : ∃ n : Nat, z6 = n := ⟨z6.toNat, by omega⟩
  exact walk v0 v1 l0 l1 a2 a3 a4 a5 a6 W h0 m0 h1 m1 y1 (by omega)

theorem proved : Rows.TableTellsSaid :=
  OpenClaim.holds_of_wide 11 Try.f11 rfl rfl rfl rfl rfl rfl rfl ⟨rfl, rfl, rfl, rfl, rfl⟩ rfl rfl rfl rfl rfl (by kernel_rfl) Try.func11 (by kernel_rfl)
    (of_decide_eq_true (by kernel_rfl)) (by unfold Func.isWrapper; first | (rw [if_pos (by decide +kernel)]; kernel_rfl) | (rw [if_neg (by decide +kernel)]; exact ⟨rfl, rfl⟩))
    (fun os started H enc _ => lifted os started H enc)

end Go.Proofs.Ytnelaeafjejjgaa.tableTells
