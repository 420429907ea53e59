/- TableNext returns true for every input and changes nothing: Next returns the first round of the label, and -1 for a label that is not in the table. No condition. -/
import Derived.Test.YtnelaeafjejjgaaKnown18
import Derived.Test.YtnelaeafjejjgaaRef18
import Derived.Test.YtnelaeafjejjgaaMk18
namespace Go.Proofs.Ytnelaeafjejjgaa.tableNext
set_option maxRecDepth 100000
open Go.RowKit Go.ChangeShapes Go.WideShapes Go.ChangeAt

set_option maxRecDepth 100000 in
set_option maxHeartbeats 16000000 in
theorem walk (lv : Value) (l : List Int) (q8 f : Nat) (w : World) (hl : BytV w w.heap.size lv l) (hmx : l.length ≤ maxLen) (hy : IsByt l) (_hq8 : q8 ≤ 255) (hf : f ≤ 65535) :
    Calls Try.prog 14 #[lv, .int .u8 q8, .int .u16 f] w fun e w' => e = .returned (.bool true) ∧ Below w.heap.size w w' := by
  obtain ⟨A, c, rfl, hcp, hl⟩ := hl
  have HL := Lib.hid hl; have HY := Lib.hid hy; clear hl hy
  obtain ⟨n, hn⟩ : ∃ n, l.length = n := ⟨_, rfl⟩
  have HN := Lib.hid hn
  rw [hn] at hmx hcp ⊢
  unfold maxLen at hmx
  clear hn
  by_cases hs : 40 < n
  · skip
    go_enter Try.func14, Try.ntmps14
    go_wp2_with fail
    refine (known18_any w).mono ?_
    rintro e w1 ⟨rfl, hb1⟩
    go_wp2_with fail
    go_ret
    exact ⟨rfl, hb1⟩
  by_cases hs : n = 0
  · subst hs
    go_enter Try.func14, Try.ntmps14
    go_wp2_with fail
    refine (known18_any w).mono ?_
    rintro e w1 ⟨rfl, hb1⟩
    go_wp2_with fail
    go_ret
    exact ⟨rfl, hb1⟩
  have hk64 : n ≤ 40 := by omega
  have hk0 : 0 < n := by omega
  have z0 : ((n : Int) == 0) = false := by simp; omega
  obtain ⟨C, hC⟩ : ∃ C : Nat, (q8 : Int) % 3 = (C : Int) := ⟨q8 % 3, by omega⟩
  go_enter Try.func14, Try.ntmps14
  go_wp2_with fail
  refine (known18_any w).mono ?_
  rintro e w1 ⟨rfl, hb1⟩
  have B1 := Lib.hid hb1; clear hb1
  go_wp2_with fail
  go_loopw [7, 8] (fun v i wr => ∃ k : Nat, k ≤ n ∧ i = .int .i64 k ∧ OwnN wr w1.heap.size v (modL 3 (l.take k)) ∧ Below w1.heap.size w1 wr) (fun _ i _ => n - (intOf i).toNat)
  case atStart => exact ⟨0, Nat.zero_le _, rfl, by simpa [modL] using OwnN.nil w1 w1.heap.size, Below.refl _ _⟩
  case round =>
    obtain ⟨k, hk, rfl, ho, hb⟩ := hrel
    have hsz := hb.size
    have HO := Lib.hid ho; have HB := Lib.hid hb; clear ho hb
    by_cases hkn : k < n
    · have hkl : k < l.length := by rw [HN.out]; exact hkn
      obtain ⟨b, off, rfl, hbb, c1⟩ := lie_u8 HL.out hkl
      have hx := HY.out l[k] (List.getElem_mem hkl)
      have c2 : wr.cell? ⟨b, off + k, none⟩ = some (.int .u8 l[k]) := by
        rw [HB.out.cell (p := ⟨b, off + k, none⟩) (by have := B1.out.size; show b < _; omega), B1.out.cell (p := ⟨b, off + k, none⟩) hbb, c1]
      have HS := Lib.hid (modL_step (M := 3) hkl)
      have hlen : (modL 3 (l.take k)).length = k := by rw [modL_length, List.length_take]; omega
      have hbw : b < w1.heap.size ∧ b < wr.heap.size := by have := B1.out.size; omega
      clear c1 hbb
      obtain ⟨x, hxx⟩ : ∃ x, l[k] = x := ⟨_, rfl⟩
      rw [hxx] at c2 hx HS
      clear hxx
      obtain ⟨y, hy⟩ : ∃ y, x % 3 = y := ⟨_, rfl⟩
      rw [hy] at HS
      have hy2 : 0 ≤ y ∧ y < 3 := by omega
      have HO2 := Lib.hid (HO.out.alloc (.cells #[.int .i64 y] 3))
      have HLEN := Lib.hid hlen; clear hlen
      go_wp2_with (at_builtin; go_must (refine wpList_append_L 27 3 _ 8 Try.underlying27 inf_int rfl rfl _ _ rfl w1.heap.size _ _ _ rfl HO2.out (wr.heap.size + 1) _ 1 1 [.int .i64 y] rfl rfl (lies_new wr [.int .i64 y] 3) ?c2 ?c3 ?c4 ?c5 ?_))
      case c2 => intro u hu; simp at hu; subst hu; rfl
      case c3 => have := HLEN.out; omega
      case c4 => omega
      case c5 => simp; omega
      intro v3 w3 ho3 _ hb3
      have HO3 := Lib.hid (OwnN.snoc rfl ho3 HS.out); clear ho3
      have HB3 := Lib.hid ((HB.out.trans ((below_alloc wr (.cells #[.int .i64 y] 3)).mono hsz)).trans hb3)
      clear hb3
      go_wp2_with fail
      go_roundw
      case rel => exact ⟨k + 1, by omega, by go_num, HO3.out, HB3.out⟩
      case measure => simp [intOf]; omega
    · obtain rfl : k = n := by omega
      have HT : Hid (modL 3 (l.take k) = modL 3 l) := Lib.hid (by rw [List.take_of_length_le (by rw [HN.out]; omega)])
      have HV := Lib.hid HO.out.cap
      rw [HT.out] at HV
      have HTL : Hid ((modL 3 l).length = k) := Lib.hid (by rw [modL_length, HN.out])
      have HTR := Lib.hid (modL_range (M := 3) (by decide) (l := l))
      clear HO HT
      obtain ⟨T, hT⟩ : ∃ T, modL 3 l = T := ⟨_, rfl⟩
      rw [hT] at HV HTL HTR
      clear hT hkn
      obtain ⟨wo, rfl⟩ : ∃ wo : World, wo = wr := ⟨_, rfl⟩
      have HSL := Lib.hid (fun (a b : Nat) (ha : a ≤ 1000000) (hb : b ≤ 1000000) n => slots18_any (C : Int) a b a b (wo.drewN n) (HV.out.drew n) (by rw [HTL.out]; omega) (by rw [HTL.out]; omega) (.inr ⟨by omega, rfl⟩) (by omega) (.inr ⟨by omega, rfl⟩) (by omega))
      have HAT := Lib.hid (fun (X : Nat) (hx : X ≤ 1000000) n => at18_any (X : Int) X (wo.drewN n) (HV.out.drew n).ints (by rw [HTL.out]; omega) (by rw [HTL.out]; omega) (.inr ⟨by omega, rfl⟩) (by omega))
      have HNX := Lib.hid (fun (c : Int) (X : Nat) (hx : X ≤ 1000000) n => next18_any c (X : Int) X (wo.drewN n) (HV.out.drew n).ints (by rw [HTL.out]; omega) (.inr ⟨by omega, rfl⟩) (by omega))
      have HWE := Lib.hid (want_end T C f)
      have HWZ := Lib.hid (want_zero T C f)
      have HWH := Lib.hid (fun a (h : a < T.length) (hh : atN T (f + a) = (C : Int)) => want_hit h hh)
      have HWM := Lib.hid (fun a (h : a < T.length) (hh : atN T (f + a) ≠ (C : Int)) => want_miss h hh)
      have HN3 := Lib.hid (show nextN T 3 f = -1 from nextN_no (fun i _ => by have := HTR.out _ (atN_mem (by rw [HTL.out]; omega) (f + i)); omega))
      have HCASE := Lib.hid (nextN_cases T C f)
      have HHIT := Lib.hid (fun (a : Nat) (h : atN T a = (C : Int)) => show nextN T C a = (a : Int) ∧ cntR T C (a + 1) - cntR T C a = 1 from ⟨nextN_yes (k := 0) (by rw [HTL.out]; omega) (by rw [Nat.add_zero]; exact h) (fun i hi => by omega), by rw [hit_step h]; omega⟩)
      rw [HTL.out] at HWE HWH HWM HCASE
      obtain ⟨A2, cp2, rfl, hcp2, hl2⟩ := HV.out
      rw [HTL.out] at HSL HAT HNX ⊢
      clear hcp2 hl2 HV
      go_wp2_with fail
      rw [hC]
      clear hC
      go_loopw [10, 11] (fun s i wr => ∃ (a : Nat) (z : Int), a ≤ k ∧ i = .int .i64 z ∧ z = (f : Int) + a - 1 ∧ s = .int .i64 (wantN T C f a) ∧ Drw wo wr) (fun _ i _ => (intOf i + 1 - f).toNat)
      case atStart => exact ⟨k, _, Nat.le_refl _, rfl, by omega, by rw [HWE.out], Drw.refl wo⟩
      case round =>
        obtain ⟨a, z, ha, rfl, hz, rfl, m, rfl⟩ := hrel
        rcases Nat.eq_zero_or_pos a with rfl | ha0
        · rw [HWZ.out]
          have hzf : z < (f : Int) := by omega
          have z1 : decide ((f : Int) ≤ z) = false := by simp; omega
          have HN := Lib.hid (fun n => HNX.out (C : Int) f (by omega) n)
          have H3 := Lib.hid (fun n => HNX.out 3 f (by omega) n)
          rw [HN3.out] at H3
          clear hz
          rcases HCASE.out with ⟨hx, hno⟩ | ⟨j, hx, hj, hhit, hno⟩
          · rw [hx] at HN ⊢
            clear hx hno HCASE
            go_wp2_with fail
            refine (HN.out m).mono ?_
            rintro e w' ⟨rfl, m1, rfl⟩
            rw [World.drewN_drewN]
            go_wp2_with fail
            refine (H3.out _).mono ?_
            rintro e w' ⟨rfl, m2, rfl⟩
            rw [World.drewN_drewN]
            go_wp2_with fail
            go_ret
            exact ⟨rfl, below_drewN (B1.out.trans (HB.out.mono B1.out.size)) _⟩
          · rw [hx] at HN ⊢
            obtain ⟨X, hX⟩ : ∃ X, f + j = X := ⟨_, rfl⟩
            rw [hX] at hhit HN ⊢
            have HH := Lib.hid (HHIT.out X hhit)
            have HNX2 := Lib.hid (fun n => HNX.out (C : Int) X (by omega) n)
            rw [HH.out.1] at HNX2
            have HS1 := Lib.hid (fun n => HSL.out X (X + 1) (by omega) (by omega) n)
            rw [HH.out.2] at HS1
            obtain ⟨X1, hX1⟩ : ∃ X1, X + 1 = X1 := ⟨_, rfl⟩
            rw [hX1] at HS1
            have e1 : (X : Int) + 1 = (X1 : Int) := by omega
            have e2 : ((X : Int) == (X : Int)) = true := beq_self_eq_true _
            have e3 : ¬ (X : Int) < 0 := by omega
            have hXb : X ≤ 70000 := by omega
            clear hx hno HCASE hhit hX hX1 HH HHIT
            go_wp2_with fail
            refine (HN.out m).mono ?_
            rintro e w' ⟨rfl, m1, rfl⟩
            rw [World.drewN_drewN]
            go_wp2_with fail
            refine (H3.out _).mono ?_
            rintro e w' ⟨rfl, m2, rfl⟩
            rw [World.drewN_drewN]
            go_wp2_with fail
            refine (HNX2.out _).mono ?_
            rintro e w' ⟨rfl, m3, rfl⟩
            rw [World.drewN_drewN]
            go_wp2_with fail
            refine (HS1.out _).mono ?_
            rintro e w' ⟨rfl, m4, rfl⟩
            rw [World.drewN_drewN]
            go_wp2_with fail
            go_ret
            exact ⟨rfl, below_drewN (B1.out.trans (HB.out.mono B1.out.size)) _⟩
        · obtain ⟨a', rfl⟩ : ∃ a', a = a' + 1 := ⟨a - 1, by omega⟩
          obtain ⟨R, hR⟩ : ∃ R, f + a' = R := ⟨_, rfl⟩
          obtain rfl : z = (R : Int) := by omega
          have HA := Lib.hid (HAT.out R (by omega) m)
          have HWH2 := Lib.hid (HWH.out a' (by omega))
          have HWM2 := Lib.hid (HWM.out a' (by omega))
          rw [hR] at HWH2 HWM2
          have z1 : decide ((f : Int) ≤ (R : Int)) = true := by simp; omega
          have z2 : decide (f ≤ R) = true := by simp; omega
          have hRb : R ≤ 70000 := by omega
          have hR1 : (R : Int) - 1 = (f : Int) + a' - 1 := by omega
          have HR1 := Lib.hid hR1
          have HR2 := Lib.hid (show ((R : Int) - 1 + 1 - f).toNat < ((R : Int) + 1 - f).toNat by omega)
          obtain ⟨x, hx⟩ : ∃ x, atN T R = x := ⟨_, rfl⟩
          rw [hx] at HA HWH2 HWM2
          clear hx hR hz hR1
          by_cases hxc : x = (C : Int)
          · have e1 : (x == (C : Int)) = true := by simpa using hxc
            have HW := Lib.hid (HWH2.out hxc)
            clear hxc HWH2 HWM2
            go_wp2_with fail
            refine HA.out.mono ?_
            rintro e w' ⟨rfl, m1, rfl⟩
            rw [World.drewN_drewN]
            go_wp2_with fail
            go_roundw
            case rel => exact ⟨a', _, by omega, rfl, HR1.out, by rw [HW.out], ⟨_, rfl⟩⟩
            case measure => simp only [intOf]; exact HR2.out
          · have e1 : (x == (C : Int)) = false := by simpa using hxc
            have HW := Lib.hid (HWM2.out hxc)
            clear hxc HWH2 HWM2
            go_wp2_with fail
            refine HA.out.mono ?_
            rintro e w' ⟨rfl, m1, rfl⟩
            rw [World.drewN_drewN]
            go_wp2_with fail
            go_roundw
            case rel => exact ⟨a', _, by omega, rfl, HR1.out, by rw [HW.out], ⟨_, rfl⟩⟩
            case measure => simp only [intOf]; exact HR2.out

/- The claim. -/

set_option maxRecDepth 100000 in
theorem lifted (os : Os) (started : os.Started) (H : Type) (enc : TypeId × Value → H) :
    ReturnsInHanded {} Try.checked os 14 .any (Rows.tableNextSpec.pre6 enc Try.prog Try.f14 Rows.tableNextRow.domain false) (Rows.tableNextSpec.post enc Try.prog Try.f14 false true false false) := by
  refine returnsInHanded_of_change (C := Try.checked) ownKnobs started (by kernel_rfl) Try.func14
    (ChangeSpec.witness6 (enc := enc) (C := Try.checked) false ⟨#[], #[.slice none 0 0, .int .u8 0, .int .u16 0], []⟩ 8 (by kernel_rfl) (by kernel_rfl) (by kernel_rfl) (by kernel_rfl)) ?_
  intro W base args ds gs before hval hW _ _
  refine law_contract rfl rfl (fun ds h => by match ds, h with | [d1, d2, d3], _ => rfl) (by decide +kernel) hW ?_
  obtain ⟨p, q, hA0, _⟩ := hW
  have hA : DataW.TrodAll enc Try.prog W 0 (fun _ => true) true Try.f14.params.toList args.toList ds p := hA0
  have hval' : ∀ (j : Nat) t v, Try.f14.params[j]? = some t → args[j]? = some v → Value.okWide Try.prog W .any base t v := hval
  rw [Try.params14] at hA hval'
  obtain ⟨v0, vs0, d0, ds0, p0, q0, hargs, rfl, rfl, h0, r0⟩ := trodAll_cons hA
  obtain ⟨v1, vs1, d1, ds1, p1, q1, rfl, rfl, rfl, h1, r1⟩ := trodAll_cons r0
  obtain ⟨v2, vs2, d2, ds2, p2, q2, rfl, rfl, rfl, h2, r2⟩ := trodAll_cons r1
  obtain ⟨rfl, rfl, rfl⟩ := trodAll_nil r2
  obtain rfl : args = #[v0, v1, v2] := by cases args; simp_all
  obtain ⟨l0, h0, m0, y0⟩ := open_bytv (hval' 0 _ v0 rfl rfl) h0
  obtain ⟨z1, rfl, rfl, rfl, w1⟩ := open_int Try.underlying5 (hval' 1 _ v1 rfl rfl) h1
  have b1 : 0 ≤ z1 ∧ z1 ≤ 255 := by simpa [Lit.wf, IntKind.min, IntKind.max, IntKind.signed, IntKind.bits] using w1
  obtain ⟨a1, rfl⟩ : ∃ n : Nat, z1 = n := ⟨z1.toNat, by omega⟩
  obtain ⟨z2, rfl, rfl, rfl, w2⟩ := open_int Try.underlying42 (hval' 2 _ v2 rfl rfl) h2
  have b2 : 0 ≤ z2 ∧ z2 ≤ 65535 := by simpa [Lit.wf, IntKind.min, IntKind.max, IntKind.signed, IntKind.bits] using w2
  obtain ⟨a2, rfl⟩ : ∃ n : Nat, z2 = n := ⟨z2.toNat, by omega⟩
  exact walk v0 l0 a1 a2 W h0 m0 y0 (by omega) (by omega)

theorem proved : Rows.TableNextSaid :=
  OpenClaim.holds_of_wide 14 Try.f14 rfl rfl rfl rfl rfl rfl rfl ⟨rfl, rfl, rfl, rfl, rfl⟩ rfl rfl rfl rfl rfl (by kernel_rfl) Try.func14 (by kernel_rfl)
    (of_decide_eq_true (by kernel_rfl)) (by unfold Func.isWrapper; first | (rw [if_pos (by decide +kernel)]; kernel_rfl) | (rw [if_neg (by decide +kernel)]; exact ⟨rfl, rfl⟩))
    (fun os started H enc _ => lifted os started H enc)

end Go.Proofs.Ytnelaeafjejjgaa.tableNext
