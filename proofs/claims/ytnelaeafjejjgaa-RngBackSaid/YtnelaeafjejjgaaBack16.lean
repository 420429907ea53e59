/- RngBack returns true for every input and changes nothing: Step is injective and linear over xor, and only 0 comes to 0. No condition. -/
import Derived.Test.YtnelaeafjejjgaaKnown16
import Derived.Test.YtnelaeafjejjgaaLaw
namespace Go.Proofs.Ytnelaeafjejjgaa.rngBack
set_option maxRecDepth 100000
open Go.RowKit Go.ChangeShapes Go.WideShapes Go.ChangeAt

theorem pow_lt (i : Nat) : 2 ^ (i % 64) < 18446744073709551616 :=
  Nat.lt_of_lt_of_le (Nat.pow_lt_pow_right (a := 2) (m := i % 64) (n := 64) (by decide) (Nat.mod_lt i (by decide))) (by decide)
theorem shl_one (a i : Nat) (ha : a < 18446744073709551616) : bits .xor .u64 (a : Int) (IntKind.u64.wrap (2 ^ (i % 64))) = ((a ^^^ 2 ^ (i % 64) : Nat) : Int) := by
  have h := pow_lt i
  have e : IntKind.u64.wrap (2 ^ (i % 64)) = ((2 ^ (i % 64) : Nat) : Int) := by
    rw [wrapU64, Int.emod_eq_of_lt]
    · simp
    · exact Int.pow_nonneg (by decide)
    · have : ((2 ^ (i % 64) : Nat) : Int) < 18446744073709551616 := by omega
      simpa using this
  rw [e, u64_xor_nat _ _ ha h]
theorem beq_nat (a b : Nat) : ((a : Int) == (b : Int)) = (a == b) := by
  rw [Bool.eq_iff_iff, beq_iff_eq, beq_iff_eq]; omega

set_option maxRecDepth 100000 in
set_option maxHeartbeats 8000000 in
theorem walk (a b i : Nat) (w : World) (ha : a < 18446744073709551616) (hb : b < 18446744073709551616) :
    Calls Try.prog 6 #[.int .u64 a, .int .u64 b, .int .u8 i] w fun e w' => e = .returned (.bool true) ∧ Below w.heap.size w w' := by
  have hc := pow_lt i
  have k1 := shl_one a i ha
  have hm : 2 ^ (i % 64) ≠ 0 := Nat.ne_of_gt (Nat.pow_pos (by decide))
  generalize 2 ^ (i % 64) = m at hc k1 hm
  obtain ⟨c, hcc⟩ : ∃ c, a ^^^ m = c := ⟨_, rfl⟩
  obtain ⟨x, hxx⟩ : ∃ x, a ^^^ b = x := ⟨_, rfl⟩
  have hc' : c < 18446744073709551616 := by rw [← hcc]; exact xor_lt64 ha hc
  have hx' : x < 18446744073709551616 := by rw [← hxx]; exact xor_lt64 ha hb
  rw [hcc] at k1
  have k2 : bits .xor .u64 (a : Int) (b : Int) = (x : Int) := by rw [u64_xor_nat _ _ ha hb, hxx]
  obtain ⟨sa, h1⟩ : ∃ s, stepN a = s := ⟨_, rfl⟩
  obtain ⟨sb, h2⟩ : ∃ s, stepN b = s := ⟨_, rfl⟩
  obtain ⟨sc, h3⟩ : ∃ s, stepN c = s := ⟨_, rfl⟩
  obtain ⟨sx, h4⟩ : ∃ s, stepN x = s := ⟨_, rfl⟩
  have HA := Lib.hid (fun w => h1 ▸ step16_any a w ha)
  have HB := Lib.hid (fun w => h2 ▸ step16_any b w hb)
  have HC := Lib.hid (fun w => h3 ▸ step16_any c w hc')
  have HX := Lib.hid (fun w => h4 ▸ step16_any x w hx')
  have k3 : bits .xor .u64 (sa : Int) (sb : Int) = (sx : Int) := by
    rw [u64_xor_nat _ _ (by rw [← h1]; exact stepN_lt ha) (by rw [← h2]; exact stepN_lt hb), ← h1, ← h2, stepN_xor ha hb, hxx, h4]
  obtain ⟨z, hz⟩ : ∃ z, (a == b) = z := ⟨_, rfl⟩
  obtain ⟨y, hy⟩ : ∃ y, (a == 0) = y := ⟨_, rfl⟩
  have e1 : ((sa : Int) == (sb : Int)) = z := by
    rw [beq_nat, ← hz, Bool.eq_iff_iff, beq_iff_eq, beq_iff_eq, ← h1, ← h2]
    exact ⟨stepN_inj ha hb, fun e => by rw [e]⟩
  have e2 : ((a : Int) == (b : Int)) = z := by rw [beq_nat, hz]
  have e3 : ((sa : Int) != (sc : Int)) = true := by
    have : sa ≠ sc := by
      rw [← h1, ← h3]
      intro e
      exact xor_ne (a := a) hm (hcc.trans (stepN_inj ha hc' e).symm)
    simp; omega
  have e4 : ((sa : Int) == 0) = y := by
    have := beq_nat sa 0
    rw [show ((0 : Nat) : Int) = 0 from rfl] at this
    rw [this, ← hy, Bool.eq_iff_iff, beq_iff_eq, beq_iff_eq, ← h1]
    exact ⟨fun e => stepN_inj ha (by decide) (e.trans stepN_zero.symm), fun e => by rw [e]; rfl⟩
  have e5 : ((a : Int) == 0) = y := by
    have := beq_nat a 0
    rw [show ((0 : Nat) : Int) = 0 from rfl] at this
    rw [this, hy]
  have e6 : (z == z) = true := beq_self_eq_true _
  have e7 : (y == y) = true := beq_self_eq_true _
  have e8 : ((sx : Int) == (sx : Int)) = true := beq_self_eq_true _
  clear ha hb hc hm hcc hxx hc' hx' h1 h2 h3 h4 hz hy
  go_enter Try.func6, Try.ntmps6
  go_wp2_with fail
  refine (known16_any w).mono ?_
  rintro e w1 ⟨rfl, hb1⟩
  have B1 := Lib.hid hb1; clear hb1
  go_wp2_with fail
  refine (HA.out w1).mono ?_
  rintro e w' ⟨rfl, rfl⟩
  go_wp2_with fail
  refine (HB.out w1).mono ?_
  rintro e w' ⟨rfl, rfl⟩
  go_wp2_with fail
  refine (HA.out w1).mono ?_
  rintro e w' ⟨rfl, rfl⟩
  go_wp2_with fail
  refine (HC.out w1).mono ?_
  rintro e w' ⟨rfl, rfl⟩
  go_wp2_with fail
  refine (HA.out w1).mono ?_
  rintro e w' ⟨rfl, rfl⟩
  go_wp2_with fail
  refine (HA.out w1).mono ?_
  rintro e w' ⟨rfl, rfl⟩
  go_wp2_with fail
  refine (HB.out w1).mono ?_
  rintro e w' ⟨rfl, rfl⟩
  go_wp2_with fail
  refine (HX.out w1).mono ?_
  rintro e w' ⟨rfl, rfl⟩
  go_wp2_with fail
  go_ret
  exact ⟨rfl, B1.out⟩

/- The claim. -/

set_option maxRecDepth 100000 in
theorem lifted (os : Os) (started : os.Started) (H : Type) (enc : TypeId × Value → H) :
    ReturnsInHanded {} Try.checked os 6 .any (Rows.rngBackSpec.pre6 enc Try.prog Try.f6 Rows.rngBackRow.domain false) (Rows.rngBackSpec.post enc Try.prog Try.f6 false true false false) := by
  refine returnsInHanded_of_change (C := Try.checked) ownKnobs started (by kernel_rfl) Try.func6
    (ChangeSpec.witness6 (enc := enc) (C := Try.checked) false ⟨#[], #[.int .u64 0, .int .u64 0, .int .u8 0], []⟩ 8 (by kernel_rfl) (by kernel_rfl) (by kernel_rfl) (by kernel_rfl)) ?_
  intro W base args ds gs before hval hW _ _
  refine law_contract rfl rfl (fun ds h => by match ds, h with | [d1, d2, d3], _ => rfl) (by decide +kernel) hW ?_
  obtain ⟨p, q, hA0, _⟩ := hW
  have hA : DataW.TrodAll enc Try.prog W 0 (fun _ => true) true Try.f6.params.toList args.toList ds p := hA0
  have hval' : ∀ (j : Nat) t v, Try.f6.params[j]? = some t → args[j]? = some v → Value.okWide Try.prog W .any base t v := hval
  rw [Try.params6] at hA hval'
  obtain ⟨v0, vs0, d0, ds0, p0, q0, hargs, rfl, rfl, h0, r0⟩ := trodAll_cons hA
  obtain ⟨v1, vs1, d1, ds1, p1, q1, rfl, rfl, rfl, h1, r1⟩ := trodAll_cons r0
  obtain ⟨v2, vs2, d2, ds2, p2, q2, rfl, rfl, rfl, h2, r2⟩ := trodAll_cons r1
  obtain ⟨rfl, rfl, rfl⟩ := trodAll_nil r2
  obtain rfl : args = #[v0, v1, v2] := by cases args; simp_all
  obtain ⟨z0, rfl, rfl, rfl, w0⟩ := open_int Try.underlying34 (hval' 0 _ v0 rfl rfl) h0
  have b0 : 0 ≤ z0 ∧ z0 ≤ 18446744073709551615 := by simpa [Lit.wf, IntKind.min, IntKind.max, IntKind.signed, IntKind.bits] using w0
  obtain ⟨a0, rfl⟩ : ∃ n : Nat, z0 = n := ⟨z0.toNat, by omega⟩
  obtain ⟨z1, rfl, rfl, rfl, w1⟩ := open_int Try.underlying34 (hval' 1 _ v1 rfl rfl) h1
  have b1 : 0 ≤ z1 ∧ z1 ≤ 18446744073709551615 := by simpa [Lit.wf, IntKind.min, IntKind.max, IntKind.signed, IntKind.bits] using w1
  obtain ⟨a1, rfl⟩ : ∃ n : Nat, z1 = n := ⟨z1.toNat, by omega⟩
  obtain ⟨z2, rfl, rfl, rfl, w2⟩ := open_int Try.underlying5 (hval' 2 _ v2 rfl rfl) h2
  have b2 : 0 ≤ z2 ∧ z2 ≤ 255 := by simpa [Lit.wf, IntKind.min, IntKind.max, IntKind.signed, IntKind.bits] using w2
  obtain ⟨a2, rfl⟩ : ∃ n : Nat, z2 = n := ⟨z2.toNat, by omega⟩
  exact walk a0 a1 a2 W (by omega) (by omega)

theorem proved : Rows.RngBackSaid :=
  OpenClaim.holds_of_wide 6 Try.f6 rfl rfl rfl rfl rfl rfl rfl ⟨rfl, rfl, rfl, rfl, rfl⟩ rfl rfl rfl rfl rfl (by kernel_rfl) Try.func6 (by kernel_rfl)
    (of_decide_eq_true (by kernel_rfl)) (by unfold Func.isWrapper; first | (rw [if_pos (by decide +kernel)]; kernel_rfl) | (rw [if_neg (by decide +kernel)]; exact ⟨rfl, rfl⟩))
    (fun os started H enc _ => lifted os started H enc)

end Go.Proofs.Ytnelaeafjejjgaa.rngBack
