/- TableTurns returns true for every input and changes nothing: the table repeats after every period, and every round belongs to one label. No condition. -/
import Derived.Test.YtnelaeafjejjgaaKnown18
import Derived.Test.YtnelaeafjejjgaaRef18
import Derived.Test.YtnelaeafjejjgaaMk18
namespace Go.Proofs.Ytnelaeafjejjgaa.tableTurns
set_option maxRecDepth 100000
open Go.RowKit Go.ChangeShapes Go.WideShapes Go.ChangeAt

set_option maxRecDepth 100000 in
set_option maxHeartbeats 16000000 in
theorem walk (lv : Value) (l : List Int) (r q : Nat) (w : World) (hl : BytV w w.heap.size lv l) (hmx : l.length ≤ maxLen) (hy : IsByt l) (hr : r ≤ 65535) (hg8 : q ≤ 255) :
    Calls Try.prog 13 #[lv, .int .u16 r, .int .u8 q] w fun e w' => e = .returned (.bool true) ∧ Below w.heap.size w w' := by
  obtain ⟨A, c, rfl, hcp, hl⟩ := hl
  have HL := Lib.hid hl; have HY := Lib.hid hy; clear hl hy
  obtain ⟨n, hn⟩ : ∃ n, l.length = n := ⟨_, rfl⟩
  have HN := Lib.hid hn
  rw [hn] at hmx hcp ⊢
  unfold maxLen at hmx
  clear hn
  by_cases hs : 64 < n
  · skip
    go_enter Try.func13, Try.ntmps13
    go_wp2_with fail
    refine (known18_any w).mono ?_
    rintro e w1 ⟨rfl, hb1⟩
    go_wp2_with fail
    go_ret
    exact ⟨rfl, hb1⟩
  by_cases hs : n = 0
  · subst hs
    go_enter Try.func13, Try.ntmps13
    go_wp2_with fail
    refine (known18_any w).mono ?_
    rintro e w1 ⟨rfl, hb1⟩
    go_wp2_with fail
    go_ret
    exact ⟨rfl, hb1⟩
  have hk64 : n ≤ 64 := by omega
  have hk0 : 0 < n := by omega
  have z0 : ((n : Int) == 0) = false := by simp; omega
  go_enter Try.func13, Try.ntmps13
  go_wp2_with fail
  refine (known18_any w).mono ?_
  rintro e w1 ⟨rfl, hb1⟩
  have B1 := Lib.hid hb1; clear hb1
  go_wp2_with fail
  go_loopw [7, 8] (fun v i wr => ∃ k : Nat, k ≤ n ∧ i = .int .i64 k ∧ OwnN wr w1.heap.size v (modL 4 (l.take k)) ∧ Below w1.heap.size w1 wr) (fun _ i _ => n - (intOf i).toNat)
  case atStart => exact ⟨0, Nat.zero_le _, rfl, by simpa [modL] using OwnN.nil w1 w1.heap.size, Below.refl _ _⟩
  case round =>
    obtain ⟨k, hk, rfl, ho, hb⟩ := hrel
    have hsz := hb.size
    have HO := Lib.hid ho; have HB := Lib.hid hb; clear ho hb
    by_cases hkn : k < n
    · have hkl : k < l.length := by rw [HN.out]; exact hkn
      obtain ⟨b, off, rfl, hbb, c1⟩ := lie_u8 HL.out hkl
      have hx := HY.out l[k] (List.getElem_mem hkl)
      have c2 : wr.cell? ⟨b, off + k, none⟩ = some (.int .u8 l[k]) := by
        rw [HB.out.cell (p := ⟨b, off + k, none⟩) (by have := B1.out.size; show b < _; omega), B1.out.cell (p := ⟨b, off + k, none⟩) hbb, c1]
      have HS := Lib.hid (modL_step (M := 4) hkl)
      have hlen : (modL 4 (l.take k)).length = k := by rw [modL_length, List.length_take]; omega
      have hbw : b < w1.heap.size ∧ b < wr.heap.size := by have := B1.out.size; omega
      clear c1 hbb
      obtain ⟨x, hxx⟩ : ∃ x, l[k] = x := ⟨_, rfl⟩
      rw [hxx] at c2 hx HS
      clear hxx
      obtain ⟨y, hy⟩ : ∃ y, x % 4 = y := ⟨_, rfl⟩
      rw [hy] at HS
      have hy2 : 0 ≤ y ∧ y < 4 := by omega
      have HO2 := Lib.hid (HO.out.alloc (.cells #[.int .i64 y] 3))
      have HLEN := Lib.hid hlen; clear hlen
      go_wp2_with (at_builtin; go_must (refine wpList_append_L 27 3 _ 8 Try.underlying27 inf_int rfl rfl _ _ rfl w1.heap.size _ _ _ rfl HO2.out (wr.heap.size + 1) _ 1 1 [.int .i64 y] rfl rfl (lies_new wr [.int .i64 y] 3) ?c2 ?c3 ?c4 ?c5 ?_))
      case c2 => intro u hu; simp at hu; subst hu; rfl
      case c3 => have := HLEN.out; omega
      case c4 => omega
      case c5 => simp; omega
      intro v3 w3 ho3 _ hb3
      have HO3 := Lib.hid (OwnN.snoc rfl ho3 HS.out); clear ho3
      have HB3 := Lib.hid ((HB.out.trans ((below_alloc wr (.cells #[.int .i64 y] 3)).mono hsz)).trans hb3)
      clear hb3
      go_wp2_with fail
      go_roundw
      case rel => exact ⟨k + 1, by omega, by go_num, HO3.out, HB3.out⟩
      case measure => simp [intOf]; omega
    · obtain rfl : k = n := by omega
      have HT : Hid (modL 4 (l.take k) = modL 4 l) := Lib.hid (by rw [List.take_of_length_le (by rw [HN.out]; omega)])
      have HV := Lib.hid HO.out.cap
      rw [HT.out] at HV
      have HTL : Hid ((modL 4 l).length = k) := Lib.hid (by rw [modL_length, HN.out])
      have HTR := Lib.hid (modL_range (M := 4) (by decide) (l := l))
      clear HO HT
      obtain ⟨T, hT⟩ : ∃ T, modL 4 l = T := ⟨_, rfl⟩
      rw [hT] at HV HTL HTR
      clear hT hkn
      obtain ⟨wo, rfl⟩ : ∃ wo : World, wo = wr := ⟨_, rfl⟩
      have HSL := Lib.hid (fun (c : Int) (a b : Nat) (ha : a ≤ 1000000) (hb : b ≤ 1000000) n => slots18_any c a b a b (wo.drewN n) (HV.out.drew n) (by rw [HTL.out]; omega) (by rw [HTL.out]; omega) (.inr ⟨by omega, rfl⟩) (by omega) (.inr ⟨by omega, rfl⟩) (by omega))
      have HAT := Lib.hid (fun (x : Int) (X : Nat) (hr : Rnd x X) (hx : X ≤ 1000000) n => at18_any x X (wo.drewN n) (HV.out.drew n).ints (by rw [HTL.out]; omega) (by rw [HTL.out]; omega) hr (by omega))
      have HS4 := Lib.hid (sum_four (by rw [HTL.out]; omega) HTR.out r q)
      have HSS := Lib.hid (fun i => show sumR T r (r + q) (i + 1) = sumR T r (r + q) i + (cntR T (i : Nat) (r + q) - cntR T (i : Nat) r) from rfl)
      have HLE := Lib.hid (fun i => sumR_le T r q i)
      have HTT := Lib.hid (atN_turns T r q)
      have HNG := Lib.hid (show cntR T 0 r - cntR T 0 (r + 1) = 0 by have := cntR_mono T 0 r 1; omega)
      have HGET := Lib.hid (fun i (hi : i < T.length) => atN_low hi)
      have HMOD := Lib.hid (fun (hi : r % T.length < T.length) => show atN T r = T[r % T.length] by unfold atN; simp [List.getD, hi])
      obtain ⟨A2, cp2, rfl, hcp2, hl2⟩ := HV.out
      have HL2 := Lib.hid hl2
      have hT0 : 0 < T.length := by rw [HTL.out]; omega
      have hTr : r % T.length < T.length := Nat.mod_lt _ hT0
      obtain ⟨b2, o2, rfl, hb2, d1⟩ := lie_int HL2.out hTr
      obtain ⟨b2', o2', e2, _, d0⟩ := lie_int HL2.out hT0
      injection e2 with e2; injection e2 with e21 e22; subst e21; subst e22
      rw [← HMOD.out hTr] at d1
      rw [← HGET.out 0 hT0] at d0
      rw [HTL.out] at HSL HAT HTT d1 hTr ⊢
      obtain ⟨x0, hx0⟩ : ∃ x, atN T 0 = x := ⟨_, rfl⟩
      obtain ⟨x1, hx1⟩ : ∃ x, atN T r = x := ⟨_, rfl⟩
      rw [hx0] at d0; rw [hx1] at d1 HTT
      obtain ⟨Y, hY⟩ : ∃ Y, r + q = Y := ⟨_, rfl⟩
      rw [hY] at HS4 HSS HLE
      have hYb : Y ≤ 70000 := by omega
      have eY : (r : Int) + (q : Int) = (Y : Int) := by omega
      obtain ⟨s, hs'⟩ : ∃ s, r % k = s := ⟨_, rfl⟩
      rw [hs'] at d1 hTr
      have g0 := Lib.hid (fun n => HAT.out 0 0 (.inr ⟨by decide, rfl⟩) (by decide) n)
      have HA1 := Lib.hid (fun n => HAT.out (r : Int) r (.inr ⟨by omega, rfl⟩) (by omega) n)
      rw [hx1] at HA1
      have hqk : q * k ≤ 255 * 64 := Nat.mul_le_mul hg8 hk64
      have eqk : (q : Int) * (k : Int) = ((q * k : Nat) : Int) := by rw [Int.natCast_mul]
      obtain ⟨p, hp⟩ : ∃ p, q * k = p := ⟨_, rfl⟩
      rw [hp] at HTT hqk eqk
      obtain ⟨Z, hZ⟩ : ∃ Z, r + p = Z := ⟨_, rfl⟩
      rw [hZ] at HTT
      have HA2 := Lib.hid (fun n => HAT.out (Z : Int) Z (.inr ⟨by omega, rfl⟩) (by omega) n)
      rw [HTT.out] at HA2
      obtain ⟨nr, hnr⟩ : ∃ nr : Int, -(r : Int) = nr := ⟨_, rfl⟩
      have HA3 := Lib.hid (fun n => HAT.out nr 0 (by unfold Rnd; omega) (by decide) n)
      rw [hx0] at HA3
      have HS0 := Lib.hid (fun n => HSL.out 0 (r + 1) r (by omega) (by omega) n)
      rw [HNG.out] at HS0
      obtain ⟨r1, hr1⟩ : ∃ r1, r + 1 = r1 := ⟨_, rfl⟩
      rw [hr1] at HS0
      have er1 : (r : Int) + 1 = (r1 : Int) := by omega
      have eZ : (r : Int) + (p : Int) = (Z : Int) := by omega
      clear hcp2 hl2 hT0 g0 HV HMOD HGET HNG HTT hx0 hx1 hp hr1 HL2
      go_wp2_with fail
      go_loopw [10, 11] (fun s i wr => ∃ j : Nat, j ≤ 4 ∧ i = .int .i64 j ∧ s = .int .i64 (sumR T r Y j : Nat) ∧ Drw wo wr) (fun _ i _ => 4 - (intOf i).toNat)
      case atStart => exact ⟨0, by omega, rfl, rfl, Drw.refl wo⟩
      case round =>
        obtain ⟨j, hj, rfl, rfl, m, rfl⟩ := hrel
        have hle := HLE.out j
        have hj4 : j * q ≤ 4 * 255 := Nat.mul_le_mul hj hg8
        by_cases hjn : j < 4
        · have HC := Lib.hid (HSL.out (j : Int) r Y (by omega) (by omega) m)
          have HST := Lib.hid (HSS.out j)
          have hle2 := HLE.out (j + 1)
          have hj42 : (j + 1) * q ≤ 4 * 255 := Nat.mul_le_mul (by omega) hg8
          rw [HST.out] at hle2
          obtain ⟨a, ha⟩ : ∃ a, sumR T r Y j = a := ⟨_, rfl⟩
          obtain ⟨d, hd⟩ : ∃ d, cntR T (j : Nat) Y - cntR T (j : Nat) r = d := ⟨_, rfl⟩
          rw [ha] at HST hle hle2 ⊢; rw [hd] at HST HC hle2
          have hab : a + d ≤ 1020 := by omega
          clear ha hd hle hle2 hj4 hj42
          go_wp2_with fail
          refine HC.out.mono ?_
          rintro e w' ⟨rfl, m2, rfl⟩
          rw [World.drewN_drewN]
          go_wp2_with fail
          go_roundw
          case rel => exact ⟨j + 1, by omega, by go_num, by rw [HST.out]; go_num, ⟨_, rfl⟩⟩
          case measure => simp [intOf]; omega
        · obtain rfl : j = 4 := by omega
          rw [HS4.out]
          have WB := Lib.hid (show Below wo.heap.size wo (wo.drewN m) from below_drewN (Below.refl _ _) m)
          have QA1 := Lib.hid (fun n => (HA1.out (m + n)).mono (fun _ _ h => h))
          have f1 : (wo.drewN m).cell? ⟨b2, o2 + s, none⟩ = some (.int .i64 x1) := d1
          have f0 : (wo.drewN m).cell? ⟨b2, o2, none⟩ = some (.int .i64 x0) := d0
          have QA : ∀ (z v : Int) (n : Nat), Calls Try.prog 37 #[.slice (some ⟨b2, o2, none⟩) k cp2, .int .i64 z] (wo.drewN (m + n)) (fun e w' => e = .returned (.int .i64 v) ∧ Drw (wo.drewN (m + n)) w') → Calls Try.prog 37 #[.slice (some ⟨b2, o2, none⟩) k cp2, .int .i64 z] ((wo.drewN m).drewN n) (fun e w' => e = .returned (.int .i64 v) ∧ ∃ n', w' = ((wo.drewN m).drewN n).drewN n') := fun z v n h => by
            rw [World.drewN_drewN]; exact h
          have QS : ∀ (a b : Int) (v : Int) (n : Nat), Calls Try.prog 41 #[.slice (some ⟨b2, o2, none⟩) k cp2, .int .i64 0, .int .i64 a, .int .i64 b] (wo.drewN (m + n)) (fun e w' => e = .returned (.int .i64 v) ∧ Drw (wo.drewN (m + n)) w') → Calls Try.prog 41 #[.slice (some ⟨b2, o2, none⟩) k cp2, .int .i64 0, .int .i64 a, .int .i64 b] ((wo.drewN m).drewN n) (fun e w' => e = .returned (.int .i64 v) ∧ ∃ n', w' = ((wo.drewN m).drewN n).drewN n') := fun a b v n h => by
            rw [World.drewN_drewN]; exact h
          have K1 := Lib.hid (fun n => QA r x1 n (HA1.out (m + n)))
          have K2 := Lib.hid (fun n => QA Z x1 n (HA2.out (m + n)))
          have K3 := Lib.hid (fun n => QA nr x0 n (HA3.out (m + n)))
          have K4 := Lib.hid (fun n => QS r1 r _ n (HS0.out (m + n)))
          obtain ⟨w2, hw2⟩ : ∃ w2, w2 = wo.drewN m := ⟨_, rfl⟩
          have HW2 := Lib.hid hw2
          rw [← hw2] at f1 f0 K1 K2 K3 K4 ⊢
          clear hw2 QA QS QA1 d1 d0
          have t1 : Int.tmod (r : Int) (k : Int) = (s : Int) := by rw [tmod_nat, hs']
          have t2 : IntKind.i64.wrap ((q : Int) * (k : Int)) = (p : Int) := by rw [eqk]; exact IntWalk.i64_in _ (by omega)
          have t3 : IntKind.i64.wrap ((r : Int) + (p : Int)) = (Z : Int) := by rw [eZ]; exact IntWalk.i64_in _ (by omega)
          have t4 : IntKind.i64.wrap ((r : Int) + 1) = (r1 : Int) := by rw [er1]; exact IntWalk.i64_in _ (by omega)
          have t5 : IntKind.i64.wrap (-(r : Int)) = nr := by rw [hnr]; exact IntWalk.i64_in _ (by omega)
          have t6 : IntKind.i64.wrap (s : Int) = (s : Int) := IntWalk.i64_in _ (by omega)
          have t7 : IntKind.i64.wrap (q : Int) = (q : Int) := IntWalk.i64_in _ (by omega)
          have b1 : ((x1 : Int) == (x1 : Int)) = true := beq_self_eq_true _
          have b0 : ((x0 : Int) == (x0 : Int)) = true := beq_self_eq_true _
          have b3 : ((q : Int) == (q : Int)) = true := beq_self_eq_true _
          have i1 : (0 : Int) ≤ (s : Int) ∧ (s : Int) < k := by omega
          have i2 : (0 : Int) < (k : Int) := by omega
          have i3 : ¬ (k : Int) = 0 := by omega
          clear eqk eZ er1 hnr hs' hle hj4 hjn eY hZ hY
          go_wp2_with fail
          go_quiet (first | (go_at_call 37; with_reducible refine Calls.quiet_of (K1.out _)) | (go_at_call 37; with_reducible refine Calls.quiet_of (K2.out _)) | (go_at_call 37; with_reducible refine Calls.quiet_of (K3.out _)) | (go_at_call 41; with_reducible refine Calls.quiet_of (K4.out _)) | fail)
          go_wp2_with fail
          go_ret
          exact ⟨rfl, below_drewN (B1.out.trans ((HB.out.trans (by rw [HW2.out]; exact below_drewN (Below.refl _ _) m)).mono B1.out.size)) _⟩

/- The claim. -/

set_option maxRecDepth 100000 in
theorem lifted (os : Os) (started : os.Started) (H : Type) (enc : TypeId × Value → H) :
    ReturnsInHanded {} Try.checked os 13 .any (Rows.tableTurnsSpec.pre6 enc Try.prog Try.f13 Rows.tableTurnsRow.domain false) (Rows.tableTurnsSpec.post enc Try.prog Try.f13 false true false false) := by
  refine returnsInHanded_of_change (C := Try.checked) ownKnobs started (by kernel_rfl) Try.func13
    (ChangeSpec.witness6 (enc := enc) (C := Try.checked) false ⟨#[], #[.slice none 0 0, .int .u16 0, .int .u8 0], []⟩ 8 (by kernel_rfl) (by kernel_rfl) (by kernel_rfl) (by kernel_rfl)) ?_
  intro W base args ds gs before hval hW _ _
  refine law_contract rfl rfl (fun ds h => by match ds, h with | [d1, d2, d3], _ => rfl) (by decide +kernel) hW ?_
  obtain ⟨p, q, hA0, _⟩ := hW
  have hA : DataW.TrodAll enc Try.prog W 0 (fun _ => true) true Try.f13.params.toList args.toList ds p := hA0
  have hval' : ∀ (j : Nat) t v, Try.f13.params[j]? = some t → args[j]? = some v → Value.okWide Try.prog W .any base t v := hval
  rw [Try.params13] at hA hval'
  obtain ⟨v0, vs0, d0, ds0, p0, q0, hargs, rfl, rfl, h0, r0⟩ := trodAll_cons hA
  obtain ⟨v1, vs1, d1, ds1, p1, q1, rfl, rfl, rfl, h1, r1⟩ := trodAll_cons r0
  obtain ⟨v2, vs2, d2, ds2, p2, q2, rfl, rfl, rfl, h2, r2⟩ := trodAll_cons r1
  obtain ⟨rfl, rfl, rfl⟩ := trodAll_nil r2
  obtain rfl : args = #[v0, v1, v2] := by cases args; simp_all
  obtain ⟨l0, h0, m0, y0⟩ := open_bytv (hval' 0 _ v0 rfl rfl) h0
  obtain ⟨z1, rfl, rfl, rfl, w1⟩ := open_int Try.underlying42 (hval' 1 _ v1 rfl rfl) h1
  have b1 : 0 ≤ z1 ∧ z1 ≤ 65535 := by simpa [Lit.wf, IntKind.min, IntKind.max, IntKind.signed, IntKind.bits] using w1
  obtain ⟨a1, rfl⟩ : ∃ n : Nat, z1 = n := ⟨z1.toNat, by omega⟩
  obtain ⟨z2, rfl, rfl, rfl, w2⟩ := open_int Try.underlying5 (hval' 2 _ v2 rfl rfl) h2
  have b2 : 0 ≤ z2 ∧ z2 ≤ 255 := by simpa [Lit.wf, IntKind.min, IntKind.max, IntKind.signed, IntKind.bits] using w2
  obtain ⟨a2, rfl⟩ : ∃ n : Nat, z2 = n := ⟨z2.toNat, by omega⟩
  exact walk v0 l0 a1 a2 W h0 m0 y0 (by omega) (by omega)

theorem proved : Rows.TableTurnsSaid :=
  OpenClaim.holds_of_wide 13 Try.f13 rfl rfl rfl rfl rfl rfl rfl ⟨rfl, rfl, rfl, rfl, rfl⟩ rfl rfl rfl rfl rfl (by kernel_rfl) Try.func13 (by kernel_rfl)
    (of_decide_eq_true (by kernel_rfl)) (by unfold Func.isWrapper; first | (rw [if_pos (by decide +kernel)]; kernel_rfl) | (rw [if_neg (by decide +kernel)]; exact ⟨rfl, rfl⟩))
    (fun os started H enc _ => lifted os started H enc)

end Go.Proofs.Ytnelaeafjejjgaa.tableTurns
