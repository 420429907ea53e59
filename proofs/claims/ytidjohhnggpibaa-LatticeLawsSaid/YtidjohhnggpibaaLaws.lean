/- LatticeLaws returns true for every input and changes nothing: joins and meets are commutative, associative and idempotent, absorb one another, and agree with Flows, Bottom and Top. No condition. -/
import Derived.Test.YtidjohhnggpibaaKnown3
import Derived.Test.YtidjohhnggpibaaLaw
import Derived.Deep.CutRange
import Derived.Deep.DeepCutAuto
namespace Go.Proofs.Ytidjohhnggpibaa.latticeLaws
open Go.RowKit Go.ChangeShapes Go.WideShapes Go.ChangeAt

def ends (T : List (List Bool)) (n : Nat) : Bool := allB n fun a => flowsT T (botT T) a && flowsT T a (topT T)
theorem ends_seat (k : Nat) : ends (seatT k) (seatN k) = true := by
  have h : k % 6 = 0 ∨ k % 6 = 1 ∨ k % 6 = 2 ∨ k % 6 = 3 ∨ k % 6 = 4 ∨ k % 6 = 5 := by omega
  unfold seatT seatN seatZ
  rcases h with h | h | h | h | h | h <;> rw [h] <;> decide +kernel

/-- Everything that the law asks, of three labels. -/
structure Facts (T : List (List Bool)) (a b c j m jc bc mc bm : Int) (f : Bool) : Prop where
  jab : joinZ T a b = j
  mab : meetZ T a b = m
  jba : joinZ T b a = j
  mba : meetZ T b a = m
  jaa : joinZ T a a = a
  maa : meetZ T a a = a
  jam : joinZ T a m = a
  maj : meetZ T a j = a
  jjc : joinZ T j c = jc
  jbc : joinZ T b c = bc
  jabc : joinZ T a bc = jc
  mmc : meetZ T m c = mc
  mbc : meetZ T b c = bm
  mabc : meetZ T a bm = mc
  fab : flowsT T a b = f
  fj : (j == b) = f
  fm : (m == a) = f
theorem facts {T : List (List Bool)} {a b c : Nat} (h : latB T = true) (ha : a < T.length) (hb : b < T.length) (hc : c < T.length) : ∃ j m jc bc mc bm f, Facts T a b c j m jc bc mc bm f := by
  have J := lat_jn h
  have M := lat_mt h
  have hj := J.lt ha hb
  have hm := M.lt ha hb
  have hbc := J.lt hb hc
  have hbm := M.lt hb hc
  refine ⟨_, _, _, _, _, _, _, ⟨joinZ_yes h ha hb, meetZ_yes h ha hb, ?_, ?_, ?_, ?_, ?_, ?_, joinZ_yes h hj hc, joinZ_yes h hb hc, ?_, meetZ_yes h hm hc, meetZ_yes h hb hc, ?_, flowsT_yes h ha hb, ?_, ?_⟩⟩
  · rw [joinZ_yes h hb ha, J.comm hb ha]
  · rw [meetZ_yes h hb ha, M.comm hb ha]
  · rw [joinZ_yes h ha ha, J.idem ha]
  · rw [meetZ_yes h ha ha, M.idem ha]
  · rw [joinZ_yes h ha hm, J.absorb M ha hb]
  · rw [meetZ_yes h ha hj]
    have := M.absorb (by rw [flip_flip]; exact J) ha hb
    rw [flip_flip] at this
    rw [this]
  · rw [joinZ_yes h ha hbc, J.assoc ha hb hc]
  · rw [meetZ_yes h ha hbm, M.assoc ha hb hc]
  · rw [J.le_iff ha hb, Bool.eq_iff_iff]; simp; omega
  · have := M.le_iff hb ha
    unfold flipZ at this
    rw [this, Bool.eq_iff_iff, decide_eq_true_iff]
    have e : jnN T.length (flipZ (atT T)) a b = jnN T.length (flipZ (atT T)) b a := M.comm ha hb
    rw [e]
    unfold flipZ
    simp; omega

set_option maxRecDepth 100000 in
set_option maxHeartbeats 16000000 in
theorem walk (k x y z : Nat) (w : World) (hk : k ≤ 255) (hx : x ≤ 255) (hy : y ≤ 255) (hz : z ≤ 255) :
    Calls Try.prog 4 #[.int .u8 k, .int .u8 x, .int .u8 y, .int .u8 z] w fun e w' => e = .returned (.bool true) ∧ Below w.heap.size w w' := by
  obtain ⟨n, hn⟩ : ∃ n, seatN k = n := ⟨_, rfl⟩
  obtain ⟨T, hT⟩ : ∃ T, seatT k = T := ⟨_, rfl⟩
  have hn2 := seatN_le k
  have hlat := seat_lat k
  have hlen := seatT_len k
  have hend := ends_seat k
  have hst : tabOf (seatN k) (seatZ k) = seatT k := rfl
  rw [hT] at hlat hlen hst hend
  rw [hn] at hn2 hlen hst hend
  have HSE := Lib.hid (seat_any k hk); rw [hn] at HSE
  generalize seatZ k = Z at *
  clear hT hn
  obtain ⟨a, ha⟩ : ∃ a : Nat, x % n = a := ⟨_, rfl⟩
  obtain ⟨b, hb⟩ : ∃ b : Nat, y % n = b := ⟨_, rfl⟩
  obtain ⟨c, hc⟩ : ∃ c : Nat, z % n = c := ⟨_, rfl⟩
  have han : a < n := by rw [← ha]; exact Nat.mod_lt _ (by omega)
  have hbn : b < n := by rw [← hb]; exact Nat.mod_lt _ (by omega)
  have hcn : c < n := by rw [← hc]; exact Nat.mod_lt _ (by omega)
  have hai : (x : Int) % (n : Int) = a := by omega
  have hbi : (y : Int) % (n : Int) = b := by omega
  have hci : (z : Int) % (n : Int) = c := by omega
  have hat : (x : Int).tmod (n : Int) = a := by rw [Int.tmod_eq_emod_of_nonneg (by omega)]; exact hai
  have hbt : (y : Int).tmod (n : Int) = b := by rw [Int.tmod_eq_emod_of_nonneg (by omega)]; exact hbi
  have hct : (z : Int).tmod (n : Int) = c := by rw [Int.tmod_eq_emod_of_nonneg (by omega)]; exact hci
  obtain ⟨j, m, jc, bc, mc, bm, f, hf⟩ := facts hlat (a := a) (b := b) (c := c) (by rw [hlen]; exact han) (by rw [hlen]; exact hbn) (by rw [hlen]; exact hcn)
  have hea := allB_iff.1 hend a han
  rw [Bool.and_eq_true] at hea
  have HF := Lib.hid hf; clear hf hend
  have HE := Lib.hid hea; clear hea
  have HL := Lib.hid hlat; clear hlat
  have HST := Lib.hid hst; clear hst hlen
  clear ha hb hc
  go_enter Try.func4, Try.ntmps4
  go_wp2_with fail
  refine (known_any w).mono ?_
  rintro e w1 ⟨rfl, hb⟩
  have B1 := Lib.hid hb; clear hb
  go_wp2_with fail
  refine (HSE.out w1).mono ?_
  rintro e w2 ⟨v, G, C, rfl, hg, hb⟩
  obtain ⟨gq, cq, rfl, hxx⟩ := hg.grid (by omega)
  clear hxx
  have HQ := Lib.hid hg.tab; clear hg
  rw [HST.out] at HQ
  have B2 := Lib.hid (nextB B1.out hb); clear hb
  go_wp2_with fail
  refine (new_any w2 HQ.out).mono ?_
  rintro e w3 hm
  obtain ⟨g, rfl, hl, hb⟩ := hm.yes HL.out
  clear hm
  have B3 := Lib.hid (nextB B2.out hb); clear hb HQ
  have HV := Lib.hid hl; clear hl
  have hn0 : ((n : Int) == 0) = false := by simp; omega
  have hnz : (n : Int) ≠ 0 := by omega
  go_wp2_with fail
  go_quiet (fail)
  obtain ⟨w4, hw4⟩ : ∃ w4 : World, w4 = w3.drewN nq := ⟨_, rfl⟩
  have hb : Below w3.heap.size w3 w4 := by rw [hw4]; exact below_drewN (Below.refl _ _) nq
  have HV4 := Lib.hid (HV.out.later hb)
  have B4 := Lib.hid (nextB B3.out hb); clear hb
  rw [← hw4]
  clear hw4 HV B3 hai hbi hci hat hbt hct hn0 hnz
  have Q1 := Lib.hid (join_m (a : Int) (b : Int) w4 HV4.out); rw [HF.out.jab] at Q1
  have Q2 := Lib.hid (meet_m (a : Int) (b : Int) w4 HV4.out); rw [HF.out.mab] at Q2
  have Q3 := Lib.hid (join_m (b : Int) (a : Int) w4 HV4.out); rw [HF.out.jba] at Q3
  have Q4 := Lib.hid (meet_m (b : Int) (a : Int) w4 HV4.out); rw [HF.out.mba] at Q4
  have Q5 := Lib.hid (join_m (a : Int) (a : Int) w4 HV4.out); rw [HF.out.jaa] at Q5
  have Q6 := Lib.hid (meet_m (a : Int) (a : Int) w4 HV4.out); rw [HF.out.maa] at Q6
  have Q7 := Lib.hid (join_m (a : Int) m w4 HV4.out); rw [HF.out.jam] at Q7
  have Q8 := Lib.hid (meet_m (a : Int) j w4 HV4.out); rw [HF.out.maj] at Q8
  have Q9 := Lib.hid (join_m j (c : Int) w4 HV4.out); rw [HF.out.jjc] at Q9
  have Q10 := Lib.hid (join_m (b : Int) (c : Int) w4 HV4.out); rw [HF.out.jbc] at Q10
  have Q11 := Lib.hid (join_m (a : Int) bc w4 HV4.out); rw [HF.out.jabc] at Q11
  have Q12 := Lib.hid (meet_m m (c : Int) w4 HV4.out); rw [HF.out.mmc] at Q12
  have Q13 := Lib.hid (meet_m (b : Int) (c : Int) w4 HV4.out); rw [HF.out.mbc] at Q13
  have Q14 := Lib.hid (meet_m (a : Int) bm w4 HV4.out); rw [HF.out.mabc] at Q14
  have Q15 := Lib.hid (flows_m (a : Int) (b : Int) w4 HV4.out); rw [HF.out.fab] at Q15
  have Q16 := Lib.hid (bottom_m w4 HV4.out)
  have Q17 := Lib.hid (flows_m (botT T : Int) (a : Int) w4 HV4.out); rw [HE.out.1] at Q17
  have Q18 := Lib.hid (top_m w4 HV4.out)
  have Q19 := Lib.hid (flows_m (a : Int) (topT T : Int) w4 HV4.out); rw [HE.out.2] at Q19
  have fj := HF.out.fj
  have fm := HF.out.fm
  go_wp2_with fail
  refine Q1.out.mono ?_
  rintro e w' ⟨rfl, rfl⟩
  go_wp2_with fail
  refine Q2.out.mono ?_
  rintro e w' ⟨rfl, rfl⟩
  go_wp2_with fail
  refine Q3.out.mono ?_
  rintro e w' ⟨rfl, rfl⟩
  go_wp2_with fail
  refine Q4.out.mono ?_
  rintro e w' ⟨rfl, rfl⟩
  go_wp2_with fail
  refine Q5.out.mono ?_
  rintro e w' ⟨rfl, rfl⟩
  go_wp2_with fail
  refine Q6.out.mono ?_
  rintro e w' ⟨rfl, rfl⟩
  go_wp2_with fail
  refine Q7.out.mono ?_
  rintro e w' ⟨rfl, rfl⟩
  go_wp2_with fail
  refine Q8.out.mono ?_
  rintro e w' ⟨rfl, rfl⟩
  go_wp2_with fail
  refine Q9.out.mono ?_
  rintro e w' ⟨rfl, rfl⟩
  go_wp2_with fail
  refine Q10.out.mono ?_
  rintro e w' ⟨rfl, rfl⟩
  go_wp2_with fail
  refine Q11.out.mono ?_
  rintro e w' ⟨rfl, rfl⟩
  go_wp2_with fail
  refine Q12.out.mono ?_
  rintro e w' ⟨rfl, rfl⟩
  go_wp2_with fail
  refine Q13.out.mono ?_
  rintro e w' ⟨rfl, rfl⟩
  go_wp2_with fail
  refine Q14.out.mono ?_
  rintro e w' ⟨rfl, rfl⟩
  go_wp2_with fail
  refine Q15.out.mono ?_
  rintro e w' ⟨rfl, rfl⟩
  go_wp2_with fail
  refine Q15.out.mono ?_
  rintro e w' ⟨rfl, rfl⟩
  go_wp2_with fail
  refine Q16.out.mono ?_
  rintro e w' ⟨rfl, rfl⟩
  go_wp2_with fail
  refine Q17.out.mono ?_
  rintro e w' ⟨rfl, rfl⟩
  go_wp2_with fail
  refine Q18.out.mono ?_
  rintro e w' ⟨rfl, rfl⟩
  go_wp2_with fail
  refine Q19.out.mono ?_
  rintro e w' ⟨rfl, rfl⟩
  go_wp2_with fail
  go_ret
  exact ⟨rfl, B4.out⟩

/- The claim. -/

set_option maxRecDepth 100000 in
theorem lifted (os : Os) (started : os.Started) (H : Type) (enc : TypeId × Value → H) :
    ReturnsInHanded {} Try.checked os 4 .any (Rows.latticeLawsSpec.pre6 enc Try.prog Try.f4 Rows.latticeLawsRow.domain false) (Rows.latticeLawsSpec.post enc Try.prog Try.f4 false true false false) := by
  refine returnsInHanded_of_change (C := Try.checked) ownKnobs started (by kernel_rfl) Try.func4
    (ChangeSpec.witness6 (enc := enc) (C := Try.checked) false ⟨#[], #[.int .u8 0, .int .u8 0, .int .u8 0, .int .u8 0], []⟩ 8 (by kernel_rfl) (by kernel_rfl) (by kernel_rfl) (by kernel_rfl)) ?_
  intro W base args ds gs before hval hW _ _
  refine law_contract rfl rfl (fun ds h => by match ds, h with | [d1, d2, d3, d4], _ => rfl) (by decide +kernel) hW ?_
  obtain ⟨p, q, hA0, _⟩ := hW
  have hA : DataW.TrodAll enc Try.prog W 0 (fun _ => true) true Try.f4.params.toList args.toList ds p := hA0
  have hval' : ∀ (j : Nat) t v, Try.f4.params[j]? = some t → args[j]? = some v → Value.okWide Try.prog W .any base t v := hval
  rw [Try.params4] at hA hval'
  obtain ⟨v0, vs0, d0, ds0, p0, q0, hargs, rfl, rfl, h0, r0⟩ := trodAll_cons hA
  obtain ⟨v1, vs1, d1, ds1, p1, q1, rfl, rfl, rfl, h1, r1⟩ := trodAll_cons r0
  obtain ⟨v2, vs2, d2, ds2, p2, q2, rfl, rfl, rfl, h2, r2⟩ := trodAll_cons r1
  obtain ⟨v3, vs3, d3, ds3, p3, q3, rfl, rfl, rfl, h3, r3⟩ := trodAll_cons r2
  obtain ⟨rfl, rfl, rfl⟩ := trodAll_nil r3
  obtain rfl : args = #[v0, v1, v2, v3] := by cases args; simp_all
  obtain ⟨z0, rfl, rfl, rfl, w0⟩ := open_int Try.underlying5 (hval' 0 _ v0 rfl rfl) h0
  have b0 : 0 ≤ z0 ∧ z0 ≤ 255 := by simpa [Lit.wf, IntKind.min, IntKind.max, IntKind.signed, IntKind.bits] using w0
  obtain ⟨a0, rfl⟩ : ∃ n : Nat, z0 = n := ⟨z0.toNat, by omega⟩
  obtain ⟨z1, rfl, rfl, rfl, w1⟩ := open_int Try.underlying5 (hval' 1 _ v1 rfl rfl) h1
  have b1 : 0 ≤ z1 ∧ z1 ≤ 255 := by simpa [Lit.wf, IntKind.min, IntKind.max, IntKind.signed, IntKind.bits] using w1
  obtain ⟨a1, rfl⟩ : ∃ n : Nat, z1 = n := ⟨z1.toNat, by omega⟩
  obtain ⟨z2, rfl, rfl, rfl, w2⟩ := open_int Try.underlying5 (hval' 2 _ v2 rfl rfl) h2
  have b2 : 0 ≤ z2 ∧ z2 ≤ 255 := by simpa [Lit.wf, IntKind.min, IntKind.max, IntKind.signed, IntKind.bits] using w2
  obtain ⟨a2, rfl⟩ : ∃ n : Nat, z2 = n := ⟨z2.toNat, by omega⟩
  obtain ⟨z3, rfl, rfl, rfl, w3⟩ := open_int Try.underlying5 (hval' 3 _ v3 rfl rfl) h3
  have b3 : 0 ≤ z3 ∧ z3 ≤ 255 := by simpa [Lit.wf, IntKind.min, IntKind.max, IntKind.signed, IntKind.bits] using w3
  obtain ⟨a3, rfl⟩ : ∃ n : Nat, z3 = n := ⟨z3.toNat, by omega⟩
  exact walk a0 a1 a2 a3 W (by omega) (by omega) (by omega) (by omega)

theorem proved : Rows.LatticeLawsSaid :=
  OpenClaim.holds_of_wide 4 Try.f4 rfl rfl rfl rfl rfl rfl rfl ⟨rfl, rfl, rfl, rfl, rfl⟩ rfl rfl rfl rfl rfl (by kernel_rfl) Try.func4 (by kernel_rfl)
    (of_decide_eq_true (by kernel_rfl)) (by unfold Func.isWrapper; first | (rw [if_pos (by decide +kernel)]; kernel_rfl) | (rw [if_neg (by decide +kernel)]; exact ⟨rfl, rfl⟩))
    (fun os started H enc _ => lifted os started H enc)

end Go.Proofs.Ytidjohhnggpibaa.latticeLaws
