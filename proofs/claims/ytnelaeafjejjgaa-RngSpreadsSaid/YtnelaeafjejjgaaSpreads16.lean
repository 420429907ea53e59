/- RngSpreads returns true for every input and changes nothing: Below returns the next number modulo n, and 0 for n at most 1. No condition. -/
import Derived.Test.YtnelaeafjejjgaaKnown16
import Derived.Test.YtnelaeafjejjgaaLaw
namespace Go.Proofs.Ytnelaeafjejjgaa.rngSpreads
set_option maxRecDepth 100000
open Go.RowKit Go.ChangeShapes Go.WideShapes Go.ChangeAt

def Has (W w : World) (g s : Nat) : Prop := RngB w g s ∧ Below W.heap.size W w

set_option maxRecDepth 100000 in
set_option maxHeartbeats 8000000 in
theorem walk (s n k : Nat) (w : World) (hs : s < 18446744073709551616) (hn : n ≤ 65535) (hk : k ≤ 255) :
    Calls Try.prog 8 #[.int .u64 s, .int .u16 n, .int .u8 k] w fun e w' => e = .returned (.bool true) ∧ Below w.heap.size w w' := by
  have H0 := Lib.hid (seed1_lt hs)
  have HNew := Lib.hid (fun w => newRng_any s w)
  obtain ⟨s0, hs0⟩ : ∃ s0, seed1 s = s0 := ⟨_, rfl⟩
  rw [hs0] at H0 HNew
  clear hs hs0
  obtain ⟨m, hm⟩ : ∃ m : Nat, (n : Int) + 1 = (m : Int) := ⟨n + 1, by omega⟩
  have hm1 : 1 ≤ m := by omega
  have hm2 : m ≤ 65536 := by omega
  obtain ⟨K, hK⟩ : ∃ K : Nat, (k : Int) % 50 = (K : Int) := ⟨k % 50, by omega⟩
  have hK2 : K ≤ 50 := by omega
  have HM := Lib.hid hm
  have HW := Lib.hid (u64_of (n := m) (by omega) (by omega))
  go_enter Try.func8, Try.ntmps8
  go_wp2_with fail
  refine (known16_any w).mono ?_
  rintro e w1 ⟨rfl, hb1⟩
  have B1 := Lib.hid hb1; clear hb1
  go_wp2_with fail
  refine (HNew.out w1).mono ?_
  rintro e w2 ⟨g1, rfl, hr2, hg1, hb2⟩
  have R2 := Lib.hid (show Has w1 w2 g1 s0 from ⟨hr2, hb2⟩); clear hr2 hb2
  go_wp2_with fail
  clear hm hn
  go_loopw [9] (fun i wr => ∃ a : Nat, a ≤ K ∧ i = .int .i64 a ∧ Has w1 wr g1 (stepsN a s0)) (fun i _ => K - (intOf i).toNat)
  case atStart => exact ⟨0, Nat.zero_le _, rfl, R2.out⟩
  case round =>
    obtain ⟨a, ha, rfl, ht⟩ := hrel
    obtain ⟨wo, rfl⟩ : ∃ wo : World, wo = wr := ⟨_, rfl⟩
    clear R2
    have T := Lib.hid ht; clear ht
    by_cases hak : a < K
    · go_wp2_with fail
      refine (HNew.out wo).mono ?_
      rintro e w3 ⟨g2, rfl, hr3, hg2, hb3⟩
      have hlt : g1 < g2 := Nat.lt_of_lt_of_le T.out.1.lt hg2
      have T3 := Lib.hid (show Has w1 w3 g1 (stepsN a s0) ∧ RngB w3 g2 s0 from ⟨⟨T.out.1.below hb3, T.out.2.trans (hb3.mono T.out.2.size)⟩, hr3⟩)
      clear hr3 hb3 hg2 T
      go_wp2_with fail
      go_loopw [11] (fun j wr => ∃ b : Nat, b ≤ a ∧ j = .int .i64 b ∧ Has w1 wr g1 (stepsN a s0) ∧ RngB wr g2 (stepsN b s0)) (fun j _ => a - (intOf j).toNat)
      case atStart => exact ⟨0, Nat.zero_le _, rfl, T3.out⟩
      case round =>
        obtain ⟨b, hb, rfl, ht⟩ := hrel
        obtain ⟨wi, rfl⟩ : ∃ wi : World, wi = wr := ⟨_, rfl⟩
        clear T3
        have T := Lib.hid ht; clear ht
        by_cases hba : b < a
        · have HN := Lib.hid (next16_any g2 (stepsN b s0) wi T.out.2 (stepsN_lt H0.out b))
          have HS : Hid (stepsN (b + 1) s0 = stepN (stepsN b s0)) := Lib.hid rfl
          obtain ⟨q, hq⟩ : ∃ q, stepN (stepsN b s0) = q := ⟨_, rfl⟩
          rw [hq] at HN HS
          clear hq
          go_wp2_with fail
          refine HN.out.mono ?_
          rintro e w4 ⟨rfl, hr4, hf4⟩
          have T4 := Lib.hid (show Has w1 w4 g1 (stepsN a s0) ∧ RngB w4 g2 q from ⟨⟨T.out.1.1.other hf4 (by omega), rng_below T.out.1.2 hf4 (by omega)⟩, hr4⟩)
          clear hr4 hf4 T
          go_wp2_with fail
          go_roundw
          case rel => exact ⟨b + 1, by omega, by go_num, by rw [HS.out]; exact T4.out⟩
          case measure => simp [intOf]; omega
        · obtain rfl : b = a := by omega
          have HL := Lib.hid (stepsN_lt H0.out b)
          have HS : Hid (stepsN (b + 1) s0 = stepN (stepsN b s0)) := Lib.hid rfl
          obtain ⟨q, hq⟩ : ∃ q, stepsN b s0 = q := ⟨_, rfl⟩
          rw [hq] at T HL HS
          have HN := Lib.hid (next16_any g2 q wi T.out.2 HL.out)
          have HB := Lib.hid (fun w (h : RngB w g1 q) => below16_any g1 q m w h HL.out (by omega))
          rw [show belowV q m = ((stepN q % m : Nat) : Int) from by unfold belowV; rw [if_neg (by omega), Int.toNat_natCast], show belowS q m = stepN q from by unfold belowS; rw [if_neg (by omega)]] at HB
          clear hq
          obtain ⟨t, ht⟩ : ∃ t, stepN q = t := ⟨_, rfl⟩
          rw [ht] at HN HB HS
          obtain ⟨c, hc⟩ : ∃ c, t % m = c := ⟨_, rfl⟩
          have hcm : c < m := by rw [← hc]; exact Nat.mod_lt _ hm1
          rw [hc] at HB
          have z1 : ¬ IntKind.u64.wrap (m : Int) = 0 := by rw [HW.out]; omega
          have z2 : (t : Int) % IntKind.u64.wrap (m : Int) = (c : Int) := by rw [HW.out]; omega
          have z3 : IntKind.u64.wrap (c : Int) = (c : Int) := by rw [wrapU64]; omega
          have z4 : ((c : Int) != (c : Int)) = false := by simp
          have z5 : decide (m ≤ c) = false := by simp; omega
          have z6 : decide ((c : Int) < 0) = false := by simp
          have z7 : (t : Int) % (m : Int) = (c : Int) := by omega
          clear ht hc hba hb
          go_wp2_with fail
          refine HN.out.mono ?_
          rintro e w4 ⟨rfl, hr4, hf4⟩
          have T4 := Lib.hid (show Has w1 w4 g1 q from ⟨T.out.1.1.other hf4 (by omega), rng_below T.out.1.2 hf4 (by omega)⟩)
          clear hr4 hf4 T
          go_wp2_with fail
          refine (HB.out w4 T4.out.1).mono ?_
          rintro e w5 ⟨rfl, hr5, hf5⟩
          have T5 := Lib.hid (show Has w1 w5 g1 t from ⟨hr5, rng_below T4.out.2 hf5 (by have := B1.out.size; omega)⟩)
          clear hr5 hf5 T4
          go_wp2_with fail
          clear z1 z2 z3 z4 z5 z6 z7
          go_roundw
          case rel => exact ⟨b + 1, by omega, by go_num, by rw [HS.out]; exact T5.out⟩
          case measure => simp [intOf]; omega
    · have HL := Lib.hid (stepsN_lt H0.out a)
      obtain ⟨q, hq⟩ : ∃ q, stepsN a s0 = q := ⟨_, rfl⟩
      rw [hq] at T HL
      have HA := Lib.hid (below16_any g1 q (-1) wo T.out.1 HL.out (by decide))
      have HB := Lib.hid (fun w (h : RngB w g1 q) => below16_any g1 q 1 w h HL.out (by decide))
      rw [show belowV q (-1) = 0 from rfl, show belowS q (-1) = q from rfl] at HA
      rw [show belowV q 1 = 0 from by unfold belowV; rw [if_neg (by decide)]; simp [Nat.mod_one]] at HB
      clear hq
      go_wp2_with fail
      refine HA.out.mono ?_
      rintro e w4 ⟨rfl, hr4, hf4⟩
      have T4 := Lib.hid (show Has w1 w4 g1 q from ⟨hr4, rng_below T.out.2 hf4 (by have := B1.out.size; omega)⟩)
      clear hr4 hf4 T
      go_wp2_with fail
      refine (HB.out w4 T4.out.1).mono ?_
      rintro e w5 ⟨rfl, hr5, hf5⟩
      have T5 := Lib.hid (rng_below T4.out.2 hf5 (by have := B1.out.size; omega))
      clear hr5 hf5 T4
      go_wp2_with fail
      go_ret
      exact ⟨rfl, B1.out.trans (T5.out.mono B1.out.size)⟩

/- The claim. -/

set_option maxRecDepth 100000 in
theorem lifted (os : Os) (started : os.Started) (H : Type) (enc : TypeId × Value → H) :
    ReturnsInHanded {} Try.checked os 8 .any (Rows.rngSpreadsSpec.pre6 enc Try.prog Try.f8 Rows.rngSpreadsRow.domain false) (Rows.rngSpreadsSpec.post enc Try.prog Try.f8 false true false false) := by
  refine returnsInHanded_of_change (C := Try.checked) ownKnobs started (by kernel_rfl) Try.func8
    (ChangeSpec.witness6 (enc := enc) (C := Try.checked) false ⟨#[], #[.int .u64 0, .int .u16 0, .int .u8 0], []⟩ 8 (by kernel_rfl) (by kernel_rfl) (by kernel_rfl) (by kernel_rfl)) ?_
  intro W base args ds gs before hval hW _ _
  refine law_contract rfl rfl (fun ds h => by match ds, h with | [d1, d2, d3], _ => rfl) (by decide +kernel) hW ?_
  obtain ⟨p, q, hA0, _⟩ := hW
  have hA : DataW.TrodAll enc Try.prog W 0 (fun _ => true) true Try.f8.params.toList args.toList ds p := hA0
  have hval' : ∀ (j : Nat) t v, Try.f8.params[j]? = some t → args[j]? = some v → Value.okWide Try.prog W .any base t v := hval
  rw [Try.params8] at hA hval'
  obtain ⟨v0, vs0, d0, ds0, p0, q0, hargs, rfl, rfl, h0, r0⟩ := trodAll_cons hA
  obtain ⟨v1, vs1, d1, ds1, p1, q1, rfl, rfl, rfl, h1, r1⟩ := trodAll_cons r0
  obtain ⟨v2, vs2, d2, ds2, p2, q2, rfl, rfl, rfl, h2, r2⟩ := trodAll_cons r1
  obtain ⟨rfl, rfl, rfl⟩ := trodAll_nil r2
  obtain rfl : args = #[v0, v1, v2] := by cases args; simp_all
  obtain ⟨z0, rfl, rfl, rfl, w0⟩ := open_int Try.underlying34 (hval' 0 _ v0 rfl rfl) h0
  have b0 : 0 ≤ z0 ∧ z0 ≤ 18446744073709551615 := by simpa [Lit.wf, IntKind.min, IntKind.max, IntKind.signed, IntKind.bits] using w0
  obtain ⟨a0, rfl⟩ : ∃ n : Nat, z0 = n := ⟨z0.toNat, by omega⟩
  obtain ⟨z1, rfl, rfl, rfl, w1⟩ := open_int Try.underlying42 (hval' 1 _ v1 rfl rfl) h1
  have b1 : 0 ≤ z1 ∧ z1 ≤ 65535 := by simpa [Lit.wf, IntKind.min, IntKind.max, IntKind.signed, IntKind.bits] using w1
  obtain ⟨a1, rfl⟩ : ∃ n : Nat, z1 = n := ⟨z1.toNat, by omega⟩
  obtain ⟨z2, rfl, rfl, rfl, w2⟩ := open_int Try.underlying5 (hval' 2 _ v2 rfl rfl) h2
  have b2 : 0 ≤ z2 ∧ z2 ≤ 255 := by simpa [Lit.wf, IntKind.min, IntKind.max, IntKind.signed, IntKind.bits] using w2
  obtain ⟨a2, rfl⟩ : ∃ n : Nat, z2 = n := ⟨z2.toNat, by omega⟩
  exact walk a0 a1 a2 W (by omega) (by omega) (by omega)

theorem proved : Rows.RngSpreadsSaid :=
  OpenClaim.holds_of_wide 8 Try.f8 rfl rfl rfl rfl rfl rfl rfl ⟨rfl, rfl, rfl, rfl, rfl⟩ rfl rfl rfl rfl rfl (by kernel_rfl) Try.func8 (by kernel_rfl)
    (of_decide_eq_true (by kernel_rfl)) (by unfold Func.isWrapper; first | (rw [if_pos (by decide +kernel)]; kernel_rfl) | (rw [if_neg (by decide +kernel)]; exact ⟨rfl, rfl⟩))
    (fun os started H enc _ => lifted os started H enc)

end Go.Proofs.Ytnelaeafjejjgaa.rngSpreads
