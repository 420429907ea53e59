/- RngLong returns true for every input and changes nothing: the same seed yields the same numbers, and a generator seeded with a state continues from it. No condition. -/
import Derived.Test.YtnelaeafjejjgaaKnown16
import Derived.Test.YtnelaeafjejjgaaLaw
namespace Go.Proofs.Ytnelaeafjejjgaa.rngLong
set_option maxRecDepth 100000
open Go.RowKit Go.ChangeShapes Go.WideShapes Go.ChangeAt

/-- Two generators of the call's own in one state. -/
structure Two (W w : World) (g1 g2 s : Nat) : Prop where
  a : RngB w g1 s
  b : RngB w g2 s
  old : Below W.heap.size W w
theorem Two.one {W w w' : World} {g1 g2 s t : Nat} (h : Two W w g1 g2 s) (hr : RngB w' g1 t) (hf : Frm (One g1) w w') (h1 : W.heap.size ≤ g1) (hlt : g1 < g2) : RngB w' g1 t ∧ RngB w' g2 s ∧ Below W.heap.size W w' :=
  ⟨hr, h.b.other hf (by omega), rng_below h.old hf h1⟩

set_option maxRecDepth 100000 in
set_option maxHeartbeats 8000000 in
theorem walk (s n : Nat) (w : World) (hs : s < 18446744073709551616) (hn : n ≤ 255) :
    Calls Try.prog 7 #[.int .u64 s, .int .u8 n] w fun e w' => e = .returned (.bool true) ∧ Below w.heap.size w w' := by
  have H0 := Lib.hid (seed1_lt hs)
  have HP := Lib.hid (seed1_pos s)
  have HNew := Lib.hid (fun w => newRng_any s w)
  obtain ⟨s0, hs0⟩ : ∃ s0, seed1 s = s0 := ⟨_, rfl⟩
  rw [hs0] at H0 HP HNew
  clear hs hs0
  go_enter Try.func7, Try.ntmps7
  go_wp2_with fail
  refine (known16_any w).mono ?_
  rintro e w1 ⟨rfl, hb1⟩
  have B1 := Lib.hid hb1; clear hb1
  go_wp2_with fail
  refine (HNew.out w1).mono ?_
  rintro e w2 ⟨g1, rfl, hr2, hg1, hb2⟩
  have R2 := Lib.hid hr2; have B2 := Lib.hid hb2; clear hr2 hb2
  go_wp2_with fail
  refine (HNew.out w2).mono ?_
  rintro e w3 ⟨g2, rfl, hr3, hg2, hb3⟩
  have hlt : g1 < g2 := Nat.lt_of_lt_of_le R2.out.lt hg2
  have T3 := Lib.hid (show Two w1 w3 g1 g2 s0 from ⟨R2.out.below hb3, hr3, B2.out.trans (hb3.mono B2.out.size)⟩)
  clear hr3 hb3 R2 B2 hg2
  go_wp2_with fail
  go_loopw [7] (fun i wr => ∃ k : Nat, k ≤ n ∧ i = .int .i64 k ∧ Two w1 wr g1 g2 (stepsN k s0)) (fun i _ => n - (intOf i).toNat)
  case atStart => exact ⟨0, Nat.zero_le _, rfl, T3.out⟩
  case round =>
    obtain ⟨k, hk, rfl, ht⟩ := hrel
    clear T3
    have T := Lib.hid ht; clear ht
    have HL := Lib.hid (stepsN_lt H0.out k)
    have HQ := Lib.hid (stepsN_pos H0.out HP.out k)
    have HS : Hid (stepsN (k + 1) s0 = stepN (stepsN k s0)) := Lib.hid rfl
    obtain ⟨q, hq⟩ : ∃ q, stepsN k s0 = q := ⟨_, rfl⟩
    rw [hq] at T HL HS HQ
    have HN := Lib.hid (fun g w (h : RngB w g q) => next16_any g q w h HL.out)
    have HN2 := Lib.hid (fun g w (h : RngB w g (stepN q)) => next16_any g (stepN q) w h (stepN_lt HL.out))
    have HN3 := Lib.hid (newRng_any (stepN q))
    have HST := Lib.hid (fun w => step16_any (stepN q) w (stepN_lt HL.out))
    have HSD : Hid (seed1 (stepN q) = stepN q) := Lib.hid (if_neg (stepN_pos HL.out HQ.out))
    have HZ : Hid (stepN q ≠ 0) := Lib.hid (stepN_pos HL.out HQ.out)
    clear hq
    obtain ⟨r, hr⟩ : ∃ r, stepN q = r := ⟨_, rfl⟩
    rw [hr] at HN HN2 HN3 HST HSD HZ HS
    obtain ⟨t, ht⟩ : ∃ t, stepN r = t := ⟨_, rfl⟩
    rw [ht] at HN2 HST
    rw [HSD.out] at HN3
    clear hr ht HSD
    by_cases hkn : k < n
    · go_wp2_with fail
      refine (HN.out g1 wr T.out.a).mono ?_
      rintro e w4 ⟨rfl, hr4, hf4⟩
      have T4 := Lib.hid (T.out.one hr4 hf4 (by have := B1.out.size; omega) hlt)
      clear hr4 hf4 T
      go_wp2_with fail
      refine (HN.out g2 w4 T4.out.2.1).mono ?_
      rintro e w5 ⟨rfl, hr5, hf5⟩
      have T5 := Lib.hid (show Two w1 w5 g1 g2 r from ⟨T4.out.1.other hf5 (by omega), hr5, rng_below T4.out.2.2 hf5 (by omega)⟩)
      clear hr5 hf5 T4
      go_wp2_with fail
      go_roundw
      case rel => exact ⟨k + 1, by omega, by go_num, by rw [HS.out]; exact T5.out⟩
      case measure => simp [intOf]; omega
    · go_wp2_with fail
      refine (HN.out g1 wr T.out.a).mono ?_
      rintro e w4 ⟨rfl, hr4, hf4⟩
      have T4 := Lib.hid (T.out.one hr4 hf4 (by have := B1.out.size; omega) hlt)
      clear hr4 hf4 T
      go_wp2_with fail
      refine (HN3.out w4).mono ?_
      rintro e w5 ⟨g3, rfl, hr5, hg5, hb5⟩
      have hlt3 : g2 < g3 := Nat.lt_of_lt_of_le T4.out.2.1.lt hg5
      have T5 := Lib.hid (show RngB w5 g1 r ∧ RngB w5 g2 q ∧ RngB w5 g3 r ∧ Below w1.heap.size w1 w5 from ⟨T4.out.1.below hb5, T4.out.2.1.below hb5, hr5, T4.out.2.2.trans (hb5.mono T4.out.2.2.size)⟩)
      clear hr5 hb5 hg5 T4
      have e0 : ((r : Int) != 0) = true := by have := HZ.out; simp; omega
      have e1 : ((r : Int) == r) = true := beq_self_eq_true _
      have e2 : ((t : Int) == t) = true := beq_self_eq_true _
      go_wp2_with fail
      refine (HN.out g2 w5 T5.out.2.1).mono ?_
      rintro e w6 ⟨rfl, hr6, hf6⟩
      have T6 := Lib.hid (show RngB w6 g1 r ∧ RngB w6 g3 r ∧ Below w1.heap.size w1 w6 from ⟨T5.out.1.other hf6 (by omega), T5.out.2.2.1.other hf6 (by omega), rng_below T5.out.2.2.2 hf6 (by omega)⟩)
      clear hr6 hf6 T5
      go_wp2_with fail
      refine (HN2.out g3 w6 T6.out.2.1).mono ?_
      rintro e w7 ⟨rfl, hr7, hf7⟩
      have T7 := Lib.hid (show RngB w7 g1 r ∧ Below w1.heap.size w1 w7 from ⟨T6.out.1.other hf7 (by omega), rng_below T6.out.2.2 hf7 (by omega)⟩)
      clear hr7 hf7 T6
      go_wp2_with fail
      refine (HST.out w7).mono ?_
      rintro e w' ⟨rfl, rfl⟩
      go_wp2_with fail
      refine (HN2.out g1 w7 T7.out.1).mono ?_
      rintro e w8 ⟨rfl, hr8, hf8⟩
      have T8 := Lib.hid (rng_below T7.out.2 hf8 (by have := B1.out.size; omega))
      clear hr8 hf8 T7
      go_wp2_with fail
      refine (HST.out w8).mono ?_
      rintro e w' ⟨rfl, rfl⟩
      go_wp2_with fail
      go_ret
      exact ⟨rfl, B1.out.trans (T8.out.mono B1.out.size)⟩

/- The claim. -/

set_option maxRecDepth 100000 in
theorem lifted (os : Os) (started : os.Started) (H : Type) (enc : TypeId × Value → H) :
    ReturnsInHanded {} Try.checked os 7 .any (Rows.rngLongSpec.pre6 enc Try.prog Try.f7 Rows.rngLongRow.domain false) (Rows.rngLongSpec.post enc Try.prog Try.f7 false true false false) := by
  refine returnsInHanded_of_change (C := Try.checked) ownKnobs started (by kernel_rfl) Try.func7
    (ChangeSpec.witness6 (enc := enc) (C := Try.checked) false ⟨#[], #[.int .u64 0, .int .u8 0], []⟩ 8 (by kernel_rfl) (by kernel_rfl) (by kernel_rfl) (by kernel_rfl)) ?_
  intro W base args ds gs before hval hW _ _
  refine law_contract rfl rfl (fun ds h => by match ds, h with | [d1, d2], _ => rfl) (by decide +kernel) hW ?_
  obtain ⟨p, q, hA0, _⟩ := hW
  have hA : DataW.TrodAll enc Try.prog W 0 (fun _ => true) true Try.f7.params.toList args.toList ds p := hA0
  have hval' : ∀ (j : Nat) t v, Try.f7.params[j]? = some t → args[j]? = some v → Value.okWide Try.prog W .any base t v := hval
  rw [Try.params7] at hA hval'
  obtain ⟨v0, vs0, d0, ds0, p0, q0, hargs, rfl, rfl, h0, r0⟩ := trodAll_cons hA
  obtain ⟨v1, vs1, d1, ds1, p1, q1, rfl, rfl, rfl, h1, r1⟩ := trodAll_cons r0
  obtain ⟨rfl, rfl, rfl⟩ := trodAll_nil r1
  obtain rfl : args = #[v0, v1] := by cases args; simp_all
  obtain ⟨z0, rfl, rfl, rfl, w0⟩ := open_int Try.underlying34 (hval' 0 _ v0 rfl rfl) h0
  have b0 : 0 ≤ z0 ∧ z0 ≤ 18446744073709551615 := by simpa [Lit.wf, IntKind.min, IntKind.max, IntKind.signed, IntKind.bits] using w0
  obtain ⟨a0, rfl⟩ : ∃ n : Nat, z0 = n := ⟨z0.toNat, by omega⟩
  obtain ⟨z1, rfl, rfl, rfl, w1⟩ := open_int Try.underlying5 (hval' 1 _ v1 rfl rfl) h1
  have b1 : 0 ≤ z1 ∧ z1 ≤ 255 := by simpa [Lit.wf, IntKind.min, IntKind.max, IntKind.signed, IntKind.bits] using w1
  obtain ⟨a1, rfl⟩ : ∃ n : Nat, z1 = n := ⟨z1.toNat, by omega⟩
  exact walk a0 a1 W (by omega) (by omega)

theorem proved : Rows.RngLongSaid :=
  OpenClaim.holds_of_wide 7 Try.f7 rfl rfl rfl rfl rfl rfl rfl ⟨rfl, rfl, rfl, rfl, rfl⟩ rfl rfl rfl rfl rfl (by kernel_rfl) Try.func7 (by kernel_rfl)
    (of_decide_eq_true (by kernel_rfl)) (by unfold Func.isWrapper; first | (rw [if_pos (by decide +kernel)]; kernel_rfl) | (rw [if_neg (by decide +kernel)]; exact ⟨rfl, rfl⟩))
    (fun os started H enc _ => lifted os started H enc)

end Go.Proofs.Ytnelaeafjejjgaa.rngLong
