/- LatticeKeeps returns true for every input and changes nothing: a lattice stays what its table was when it was made, whatever is stored into the table afterwards. No condition. -/
import Derived.Test.YtidjohhnggpibaaKnown3
import Derived.Test.YtidjohhnggpibaaLaw
import Derived.StillTailTactics
import Derived.Deep.CutRange
import Derived.Deep.DeepCutAuto
namespace Go.Proofs.Ytidjohhnggpibaa.latticeKeeps
open Go.RowKit Go.ChangeShapes Go.WideShapes Go.ChangeAt

set_option maxRecDepth 100000 in
set_option maxHeartbeats 8000000 in
theorem walk (k x y : Nat) (w : World) (hk : k ≤ 255) (hx : x ≤ 255) (hy : y ≤ 255) :
    Calls Try.prog 7 #[.int .u8 k, .int .u8 x, .int .u8 y] w fun e w' => e = .returned (.bool true) ∧ Below w.heap.size w w' := by
  obtain ⟨n, hn⟩ : ∃ n, seatN k = n := ⟨_, rfl⟩
  obtain ⟨T, hT⟩ : ∃ T, seatT k = T := ⟨_, rfl⟩
  have hn2 := seatN_le k
  have hlat := seat_lat k
  have hlen := seatT_len k
  have hst : tabOf (seatN k) (seatZ k) = seatT k := rfl
  rw [hT] at hlat hlen hst
  rw [hn] at hn2 hlen hst
  have HSE := Lib.hid (seat_any k hk); rw [hn] at HSE
  generalize seatZ k = Z at *
  clear hT hn
  obtain ⟨a, ha⟩ : ∃ a : Nat, x % n = a := ⟨_, rfl⟩
  obtain ⟨b, hb⟩ : ∃ b : Nat, y % n = b := ⟨_, rfl⟩
  have han : a < n := by rw [← ha]; exact Nat.mod_lt _ (by omega)
  have hbn : b < n := by rw [← hb]; exact Nat.mod_lt _ (by omega)
  have hai : (x : Int) % (n : Int) = a := by omega
  have hbi : (y : Int) % (n : Int) = b := by omega
  have hat : (x : Int).tmod (n : Int) = a := by rw [Int.tmod_eq_emod_of_nonneg (by omega)]; exact hai
  have hbt : (y : Int).tmod (n : Int) = b := by rw [Int.tmod_eq_emod_of_nonneg (by omega)]; exact hbi
  have HL := Lib.hid hlat; clear hlat
  have HLEN := Lib.hid hlen; clear hlen
  have HST := Lib.hid hst; clear hst
  clear ha hb
  go_enter Try.func7, Try.ntmps7
  go_wp2_with fail
  refine (known_any w).mono ?_
  rintro e w1 ⟨rfl, hb⟩
  have B1 := Lib.hid hb; clear hb
  go_wp2_with fail
  refine (HSE.out w1).mono ?_
  rintro e w2 ⟨v, G, C, rfl, hg, hb⟩
  obtain ⟨gq, cq, rfl, hxx⟩ := hg.grid (by omega)
  clear hxx
  have HQ := Lib.hid hg.tab
  have HFG := Lib.hid hg; clear hg
  rw [HST.out] at HQ
  have B2 := Lib.hid (nextB B1.out hb); clear hb
  go_wp2_with fail
  refine (new_any w2 HQ.out).mono ?_
  rintro e w3 hm
  obtain ⟨g, rfl, hl, hb⟩ := hm.yes HL.out
  clear hm
  have HF3 := Lib.hid (HFG.out.below hb)
  have hlt2 := HFG.out.rows.lt han
  have B3 := Lib.hid (nextB B2.out hb); clear hb HQ
  have HV := Lib.hid hl; clear hl HFG
  have hn0 : ((n : Int) == 0) = false := by simp; omega
  have hnz : (n : Int) ≠ 0 := by omega
  go_wp2_with fail
  go_quiet (fail)
  obtain ⟨w4, hw4⟩ : ∃ w4 : World, w4 = w3.drewN nq := ⟨_, rfl⟩
  have hb : Below w3.heap.size w3 w4 := by rw [hw4]; exact below_drewN (Below.refl _ _) nq
  have HF4 := Lib.hid (HF3.out.below hb)
  have HV4 := Lib.hid (HV.out.later hb)
  have B4 := Lib.hid (nextB B3.out hb); clear hb
  rw [← hw4]
  clear hw4 HF3 HV B3 hai hbi hat hbt
  have Q1 := Lib.hid (flows_m (a : Int) (b : Int) w4 HV4.out)
  have t1 : w4.cell? ⟨gq, a, none⟩ = some (.slice (some ⟨G a, 0, none⟩) n (C a)) := by
    obtain ⟨g', c', hv, _, _, htop, _⟩ := HF4.out.grid (by omega)
    injection hv with hv1 _ hv3
    injection hv1 with hv1
    injection hv1 with hv1 _ _
    subst hv1 hv3
    exact htop a han
  have t2 := HF4.out.rows.cell han hbn
  have t3 := HF4.out.rows.frozen (i := b) han
  have hlo := HF4.out.rows.lo a han
  have i1 : (0 : Int) ≤ (a : Int) ∧ (a : Int) < n := by omega
  have i2 : (0 : Int) ≤ (b : Int) ∧ (b : Int) < n := by omega
  have HB5 := Lib.hid (fun u : Bool => show Below w.heap.size w (w4.setCell ⟨G a, b, none⟩ (.bool u)) from B4.out.setCell (p := ⟨G a, b, none⟩) (Nat.le_trans B1.out.size hlo) (.bool u))
  have HV5 := Lib.hid (fun u : Bool => show LatV (w4.setCell ⟨G a, b, none⟩ (.bool u)) w2.heap.size w4.heap.size g T from HV4.out.set (p := ⟨G a, b, none⟩) hlt2 (.bool u))
  obtain ⟨fl, hfl⟩ : ∃ fl, flowsT T (a : Int) (b : Int) = fl := ⟨_, rfl⟩
  rw [hfl] at Q1
  generalize G a = ga at *
  generalize C a = ca at *
  generalize Z a b = z at *
  clear HF4
  go_wp2_with fail
  refine Q1.out.mono ?_
  rintro e w' ⟨rfl, rfl⟩
  go_wp2_with fail
  go_still_tail 14, (by kernel_rfl)
  change wpList _ _ _ _ _ w4.drew
  go_wp2_with fail
  obtain ⟨w5, hw5⟩ : ∃ w5 : World, w5 = (w4.setCell ⟨ga, b, none⟩ (.bool !z)).drew := ⟨_, rfl⟩
  have hs5 : w5.heap.size = w4.heap.size := by rw [hw5]; simp [World.setCell, World.drew]
  have hv5 : LatV w5 w2.heap.size w5.heap.size g T := by rw [hs5, hw5]; exact (HV5.out _).keep fun _ _ _ _ => rfl
  have B5 := Lib.hid (show Below w.heap.size w w5 by rw [hw5]; exact (HB5.out _).drew)
  change Calls Try.prog _ _ ((w4.setCell ⟨ga, b, none⟩ (.bool !z)).drew) _
  rw [← hw5]
  have HV5' := Lib.hid hv5; clear hv5 hw5 hs5 t1 t2 t3 i1 i2 HB5 HV5 HV4 B4 hlt2 hlo Q1
  refine (HSE.out w5).mono ?_
  rintro e w6 ⟨v, G, C, rfl, hg, hb⟩
  obtain ⟨gp, cp, rfl, hxx⟩ := hg.grid (by omega)
  clear hxx
  have HQ := Lib.hid hg.tab; clear hg
  rw [HST.out] at HQ
  have HV6 := Lib.hid (HV5'.out.later hb)
  have B6 := Lib.hid (nextB B5.out hb); clear hb HV5' B5
  have Q1 := Lib.hid (flows_m (a : Int) (b : Int) w6 HV6.out)
  rw [hfl] at Q1
  have Q2 := Lib.hid (join_m (a : Int) (b : Int) w6 HV6.out)
  have Q3 := Lib.hid (refJoin_any (a : Int) (b : Int) w6 HQ.out (by rw [HLEN.out]; omega))
  obtain ⟨j, hj⟩ : ∃ j, joinZ T (a : Int) (b : Int) = j := ⟨_, rfl⟩
  rw [hj] at Q2 Q3
  obtain ⟨m, hm⟩ : ∃ m, meetZ T (a : Int) (b : Int) = m := ⟨_, rfl⟩
  have HM := Lib.hid hm; clear hm hj
  go_wp2_with fail
  refine Q1.out.mono ?_
  rintro e w' ⟨rfl, rfl⟩
  go_wp2_with fail
  refine Q2.out.mono ?_
  rintro e w' ⟨rfl, rfl⟩
  go_wp2_with fail
  refine Q3.out.mono ?_
  rintro e w7 ⟨rfl, hb⟩
  have HV7 := Lib.hid (HV6.out.later hb)
  have HQ7 := Lib.hid (HQ.out.later hb)
  have B7 := Lib.hid (nextB B6.out hb); clear hb
  have Q4 := Lib.hid (meet_m (a : Int) (b : Int) w7 HV7.out)
  have Q5 := Lib.hid (refMeet_any (a : Int) (b : Int) w7 HQ7.out (by rw [HLEN.out]; omega))
  rw [HM.out] at Q4 Q5
  clear Q1 Q2 Q3 HV6 HQ
  go_wp2_with fail
  refine Q4.out.mono ?_
  rintro e w' ⟨rfl, rfl⟩
  go_wp2_with fail
  refine Q5.out.mono ?_
  rintro e w8 ⟨rfl, hb⟩
  have B8 := Lib.hid (nextB B7.out hb); clear hb
  go_wp2_with fail
  go_ret
  exact ⟨rfl, B8.out⟩

/- The claim. -/

set_option maxRecDepth 100000 in
theorem lifted (os : Os) (started : os.Started) (H : Type) (enc : TypeId × Value → H) :
    ReturnsInHanded {} Try.checked os 7 .any (Rows.latticeKeepsSpec.pre6 enc Try.prog Try.f7 Rows.latticeKeepsRow.domain false) (Rows.latticeKeepsSpec.post enc Try.prog Try.f7 false true false false) := by
  refine returnsInHanded_of_change (C := Try.checked) ownKnobs started (by kernel_rfl) Try.func7
    (ChangeSpec.witness6 (enc := enc) (C := Try.checked) false ⟨#[], #[.int .u8 0, .int .u8 0, .int .u8 0], []⟩ 8 (by kernel_rfl) (by kernel_rfl) (by kernel_rfl) (by kernel_rfl)) ?_
  intro W base args ds gs before hval hW _ _
  refine law_contract rfl rfl (fun ds h => by match ds, h with | [d1, d2, d3], _ => rfl) (by decide +kernel) hW ?_
  obtain ⟨p, q, hA0, _⟩ := hW
  have hA : DataW.TrodAll enc Try.prog W 0 (fun _ => true) true Try.f7.params.toList args.toList ds p := hA0
  have hval' : ∀ (j : Nat) t v, Try.f7.params[j]? = some t → args[j]? = some v → Value.okWide Try.prog W .any base t v := hval
  rw [Try.params7] at hA hval'
  obtain ⟨v0, vs0, d0, ds0, p0, q0, hargs, rfl, rfl, h0, r0⟩ := trodAll_cons hA
  obtain ⟨v1, vs1, d1, ds1, p1, q1, rfl, rfl, rfl, h1, r1⟩ := trodAll_cons r0
  obtain ⟨v2, vs2, d2, ds2, p2, q2, rfl, rfl, rfl, h2, r2⟩ := trodAll_cons r1
  obtain ⟨rfl, rfl, rfl⟩ := trodAll_nil r2
  obtain rfl : args = #[v0, v1, v2] := by cases args; simp_all
  obtain ⟨z0, rfl, rfl, rfl, w0⟩ := open_int Try.underlying5 (hval' 0 _ v0 rfl rfl) h0
  have b0 : 0 ≤ z0 ∧ z0 ≤ 255 := by simpa [Lit.wf, IntKind.min, IntKind.max, IntKind.signed, IntKind.bits] using w0
  obtain ⟨a0, rfl⟩ : ∃ n : Nat, z0 = n := ⟨z0.toNat, by omega⟩
  obtain ⟨z1, rfl, rfl, rfl, w1⟩ := open_int Try.underlying5 (hval' 1 _ v1 rfl rfl) h1
  have b1 : 0 ≤ z1 ∧ z1 ≤ 255 := by simpa [Lit.wf, IntKind.min, IntKind.max, IntKind.signed, IntKind.bits] using w1
  obtain ⟨a1, rfl⟩ : ∃ n : Nat, z1 = n := ⟨z1.toNat, by omega⟩
  obtain ⟨z2, rfl, rfl, rfl, w2⟩ := open_int Try.underlying5 (hval' 2 _ v2 rfl rfl) h2
  have b2 : 0 ≤ z2 ∧ z2 ≤ 255 := by simpa [Lit.wf, IntKind.min, IntKind.max, IntKind.signed, IntKind.bits] using w2
  obtain ⟨a2, rfl⟩ : ∃ n : Nat, z2 = n := ⟨z2.toNat, by omega⟩
  exact walk a0 a1 a2 W (by omega) (by omega) (by omega)

theorem proved : Rows.LatticeKeepsSaid :=
  OpenClaim.holds_of_wide 7 Try.f7 rfl rfl rfl rfl rfl rfl rfl ⟨rfl, rfl, rfl, rfl, rfl⟩ rfl rfl rfl rfl rfl (by kernel_rfl) Try.func7 (by kernel_rfl)
    (of_decide_eq_true (by kernel_rfl)) (by unfold Func.isWrapper; first | (rw [if_pos (by decide +kernel)]; kernel_rfl) | (rw [if_neg (by decide +kernel)]; exact ⟨rfl, rfl⟩))
    (fun os started H enc _ => lifted os started H enc)

end Go.Proofs.Ytidjohhnggpibaa.latticeKeeps
