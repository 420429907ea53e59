/- PrivAll returns true for every input and changes nothing: who has all of two sets has all of each, more takes nothing away, and Of answers something exactly for privileges. No condition. -/
import Derived.Test.YthffheakhadlhaaKnown4
import Derived.Test.YthffheakhadlhaaArgI
namespace Go.Proofs.Ythffheakhadlhaa.privAll
open Go.RowKit Go.ChangeShapes Go.WideShapes Go.ChangeAt

theorem of_one (i : Int) : ofS [i] = if 0 ≤ i ∧ i < 16 then 2 ^ i.toNat else 0 := by
  have := ofS_snoc [] i
  rwa [List.nil_append, show ofS [] = 0 from rfl, Nat.zero_or] at this
theorem of_two (i : Int) : ofS [i, i] = ofS [i] := by
  refine Nat.eq_of_testBit_eq fun j => ?_
  rw [ofS_bit, ofS_bit]
  simp

theorem sides {i : Int} {q : Nat} (h : ((q : Int) != 0) = (decide (0 ≤ i) && decide (i < 16))) :
    (decide (0 ≤ i) = false ∧ ((q : Int) != 0) = false ∧ ((q : Int) == 0) = true) ∨
    (decide (0 ≤ i) = true ∧ decide (i < 16) = false ∧ ((q : Int) != 0) = false ∧ ((q : Int) == 0) = true) ∨
    (decide (0 ≤ i) = true ∧ decide (i < 16) = true ∧ ((q : Int) != 0) = true ∧ ((q : Int) == 0) = false) := by
  have he : ((q : Int) == 0) = !((q : Int) != 0) := by unfold bne; rw [Bool.not_not]
  rw [he, h]
  cases decide (0 ≤ i) <;> cases decide (i < 16) <;> decide

set_option maxRecDepth 100000 in
set_option maxHeartbeats 8000000 in
theorem walk (p a b more : Nat) (i : Int) (w : World) (hp : p < 4294967296) (ha : a < 4294967296) (hb : b < 4294967296) (hm : more < 4294967296) :
    Calls Try.prog 4 #[.int .u32 p, .int .u32 a, .int .u32 b, .int .u32 more, .int .i64 i] w fun e w' => e = .returned (.bool true) ∧ Below w.heap.size w w' := by
  obtain ⟨ab, hab⟩ : ∃ ab : Nat, ab = a ||| b := ⟨_, rfl⟩
  obtain ⟨pm, hpm⟩ : ∃ pm : Nat, pm = p ||| more := ⟨_, rfl⟩
  have oab : bits .or .u32 (a : Int) (b : Int) = (ab : Int) := by rw [hab]; exact u32_or_nat a b ha hb
  have opm : bits .or .u32 (p : Int) (more : Int) = (pm : Int) := by rw [hpm]; exact u32_or_nat p more hp hm
  have lab : ab < 4294967296 := by rw [hab]; exact Nat.or_lt_two_pow (n := 32) ha hb
  have lpm : pm < 4294967296 := by rw [hpm]; exact Nat.or_lt_two_pow (n := 32) hp hm
  obtain ⟨za, hza⟩ : ∃ z, hasB p a = z := ⟨_, rfl⟩
  obtain ⟨zb, hzb⟩ : ∃ z, hasB p b = z := ⟨_, rfl⟩
  have hzab : hasB p ab = (za && zb) := by rw [hab, hasB_or, hza, hzb]
  have hzm : za = true → hasB pm a = true := by intro h; rw [hpm]; exact hasB_more more (hza.trans h)
  obtain ⟨q, hq⟩ : ∃ q, ofS [i] = q := ⟨_, rfl⟩
  have hql : q < 65536 := by rw [← hq]; exact ofS_lt _
  have hq2 : ofS [i, i] = q := by rw [of_two, hq]
  have hqz : ((q : Int) != 0) = (decide (0 ≤ i) && decide (i < 16)) := by
    rw [← hq, of_one]
    by_cases h : 0 ≤ i ∧ i < 16
    · have := Nat.two_pow_pos i.toNat
      rw [if_pos h, decide_eq_true h.1, decide_eq_true h.2, Bool.and_self, bne_iff_ne]
      omega
    · rw [if_neg h, ← Bool.decide_and, decide_eq_false h]; rfl
  have HA := Lib.hid (fun w => has_lit p a w hp ha hza)
  have HB := Lib.hid (fun w => has_lit p b w hp hb hzb)
  have HAB := Lib.hid (fun w => has_lit p ab w hp lab hzab)
  have HM := Lib.hid (fun (h : za = true) w => has_lit pm a w lpm ha (hzm h))
  have H0 := Lib.hid (fun w => has_lit p 0 w hp (by decide) (hasB_zero p))
  have HQ := Lib.hid hq; have HQ2 := Lib.hid hq2; have HQZ := Lib.hid hqz
  have HR := Lib.hid (fun w => right_lit q (z := true) w (by omega) (by simpa using hql))
  clear hab hpm lab lpm hza hzb hzab hzm hq hq2 hqz
  go_enter Try.func4, Try.ntmps4
  go_wp2_with fail
  refine (known_any w).mono ?_
  rintro e w1 ⟨rfl, hbw⟩
  obtain ⟨w2, hw2⟩ : ∃ w2, w2 = w1.alloc (.cells #[.int .i64 i] 3) := ⟨_, rfl⟩
  have hb2 : Below w1.heap.size w1 w2 := by rw [hw2]; exact below_alloc _ _
  have B1 := Lib.hid (nextB hbw hb2); clear hbw hb2
  have HI := Lib.hid (show IntsV w2 w2.heap.size (.slice (some ⟨w1.heap.size, 0, none⟩) 1 1) [i] by rw [hw2]; exact IntsV.new w1 [i])
  go_wp2_with fail
  rw [← hw2]
  clear hw2
  refine (of_lit q w2 HI.out (by simp) HQ.out).mono ?_
  rintro e w' ⟨rfl, rfl⟩
  clear HI
  go_wp2_with fail
  refine (HAB.out _).mono ?_
  rintro e w' ⟨rfl, rfl⟩
  go_wp2_with fail
  refine (HA.out _).mono ?_
  rintro e w' ⟨rfl, rfl⟩
  have HS := Lib.hid (sides HQZ.out)
  cases za with
  | false =>
    have e1 : (false && zb) = false := rfl
    go_wp2_with fail
    refine (HA.out _).mono ?_
    rintro e w' ⟨rfl, rfl⟩
    go_wp2_with fail
    refine (H0.out _).mono ?_
    rintro e w' ⟨rfl, rfl⟩
    rcases HS.out with ⟨d1, d3, d4⟩ | ⟨d1, d2, d3, d4⟩ | ⟨d1, d2, d3, d4⟩
    · go_wp2_with fail
      refine (list_any q w2 (by omega)).mono ?_
      rintro e w3 ⟨v3, rfl, ⟨A3, c3, rfl, _⟩, hb3⟩
      rw [nats_length]
      obtain ⟨w4, hw4⟩ : ∃ w4, w4 = w3.alloc (.cells #[.int .i64 i, .int .i64 i] 3) := ⟨_, rfl⟩
      have hb4 : Below w3.heap.size w3 w4 := by rw [hw4]; exact below_alloc _ _
      have B4 := Lib.hid (nextB (nextB B1.out hb3) hb4); clear hb3 hb4
      have HI := Lib.hid (show IntsV w4 w4.heap.size (.slice (some ⟨w3.heap.size, 0, none⟩) 2 2) [i, i] by rw [hw4]; exact IntsV.new w3 [i, i])
      clear d1 d3 d4
      go_wp2_with fail
      rw [← hw4]
      clear hw4
      refine (of_lit q w4 HI.out (by simp) HQ2.out).mono ?_
      rintro e w' ⟨rfl, rfl⟩
      clear HI
      go_wp2_with fail
      refine (list_any q w4 (by omega)).mono ?_
      rintro e w5 ⟨v5, rfl, ⟨A5, c5, rfl, _⟩, hb5⟩
      rw [nats_length]
      have B5 := Lib.hid (nextB B4.out hb5); clear hb5
      go_wp2_with fail
      refine (HR.out _).mono ?_
      rintro e w' ⟨rfl, rfl⟩
      go_wp2_with fail
      go_ret
      exact ⟨rfl, B5.out⟩
    · go_wp2_with fail
      refine (list_any q w2 (by omega)).mono ?_
      rintro e w3 ⟨v3, rfl, ⟨A3, c3, rfl, _⟩, hb3⟩
      rw [nats_length]
      obtain ⟨w4, hw4⟩ : ∃ w4, w4 = w3.alloc (.cells #[.int .i64 i, .int .i64 i] 3) := ⟨_, rfl⟩
      have hb4 : Below w3.heap.size w3 w4 := by rw [hw4]; exact below_alloc _ _
      have B4 := Lib.hid (nextB (nextB B1.out hb3) hb4); clear hb3 hb4
      have HI := Lib.hid (show IntsV w4 w4.heap.size (.slice (some ⟨w3.heap.size, 0, none⟩) 2 2) [i, i] by rw [hw4]; exact IntsV.new w3 [i, i])
      clear d1 d3 d4
      go_wp2_with fail
      rw [← hw4]
      clear hw4
      refine (of_lit q w4 HI.out (by simp) HQ2.out).mono ?_
      rintro e w' ⟨rfl, rfl⟩
      clear HI
      go_wp2_with fail
      refine (list_any q w4 (by omega)).mono ?_
      rintro e w5 ⟨v5, rfl, ⟨A5, c5, rfl, _⟩, hb5⟩
      rw [nats_length]
      have B5 := Lib.hid (nextB B4.out hb5); clear hb5
      go_wp2_with fail
      refine (HR.out _).mono ?_
      rintro e w' ⟨rfl, rfl⟩
      go_wp2_with fail
      go_ret
      exact ⟨rfl, B5.out⟩
    · go_wp2_with fail
      refine (list_any q w2 (by omega)).mono ?_
      rintro e w3 ⟨v3, rfl, ⟨A3, c3, rfl, _⟩, hb3⟩
      rw [nats_length]
      obtain ⟨w4, hw4⟩ : ∃ w4, w4 = w3.alloc (.cells #[.int .i64 i, .int .i64 i] 3) := ⟨_, rfl⟩
      have hb4 : Below w3.heap.size w3 w4 := by rw [hw4]; exact below_alloc _ _
      have B4 := Lib.hid (nextB (nextB B1.out hb3) hb4); clear hb3 hb4
      have HI := Lib.hid (show IntsV w4 w4.heap.size (.slice (some ⟨w3.heap.size, 0, none⟩) 2 2) [i, i] by rw [hw4]; exact IntsV.new w3 [i, i])
      clear d1 d3 d4
      go_wp2_with fail
      rw [← hw4]
      clear hw4
      refine (of_lit q w4 HI.out (by simp) HQ2.out).mono ?_
      rintro e w' ⟨rfl, rfl⟩
      clear HI
      go_wp2_with fail
      refine (list_any q w4 (by omega)).mono ?_
      rintro e w5 ⟨v5, rfl, ⟨A5, c5, rfl, _⟩, hb5⟩
      rw [nats_length]
      have B5 := Lib.hid (nextB B4.out hb5); clear hb5
      go_wp2_with fail
      refine (HR.out _).mono ?_
      rintro e w' ⟨rfl, rfl⟩
      go_wp2_with fail
      go_ret
      exact ⟨rfl, B5.out⟩
  | true =>
    have e1 : (true && zb) = zb := rfl
    go_wp2_with fail
    refine (HB.out _).mono ?_
    rintro e w' ⟨rfl, rfl⟩
    go_wp2_with fail
    refine (HA.out _).mono ?_
    rintro e w' ⟨rfl, rfl⟩
    go_wp2_with fail
    refine (HM.out trivial _).mono ?_
    rintro e w' ⟨rfl, rfl⟩
    go_wp2_with fail
    refine (H0.out _).mono ?_
    rintro e w' ⟨rfl, rfl⟩
    rcases HS.out with ⟨d1, d3, d4⟩ | ⟨d1, d2, d3, d4⟩ | ⟨d1, d2, d3, d4⟩
    · go_wp2_with fail
      refine (list_any q w2 (by omega)).mono ?_
      rintro e w3 ⟨v3, rfl, ⟨A3, c3, rfl, _⟩, hb3⟩
      rw [nats_length]
      obtain ⟨w4, hw4⟩ : ∃ w4, w4 = w3.alloc (.cells #[.int .i64 i, .int .i64 i] 3) := ⟨_, rfl⟩
      have hb4 : Below w3.heap.size w3 w4 := by rw [hw4]; exact below_alloc _ _
      have B4 := Lib.hid (nextB (nextB B1.out hb3) hb4); clear hb3 hb4
      have HI := Lib.hid (show IntsV w4 w4.heap.size (.slice (some ⟨w3.heap.size, 0, none⟩) 2 2) [i, i] by rw [hw4]; exact IntsV.new w3 [i, i])
      clear d1 d3 d4
      go_wp2_with fail
      rw [← hw4]
      clear hw4
      refine (of_lit q w4 HI.out (by simp) HQ2.out).mono ?_
      rintro e w' ⟨rfl, rfl⟩
      clear HI
      go_wp2_with fail
      refine (list_any q w4 (by omega)).mono ?_
      rintro e w5 ⟨v5, rfl, ⟨A5, c5, rfl, _⟩, hb5⟩
      rw [nats_length]
      have B5 := Lib.hid (nextB B4.out hb5); clear hb5
      go_wp2_with fail
      refine (HR.out _).mono ?_
      rintro e w' ⟨rfl, rfl⟩
      go_wp2_with fail
      go_ret
      exact ⟨rfl, B5.out⟩
    · go_wp2_with fail
      refine (list_any q w2 (by omega)).mono ?_
      rintro e w3 ⟨v3, rfl, ⟨A3, c3, rfl, _⟩, hb3⟩
      rw [nats_length]
      obtain ⟨w4, hw4⟩ : ∃ w4, w4 = w3.alloc (.cells #[.int .i64 i, .int .i64 i] 3) := ⟨_, rfl⟩
      have hb4 : Below w3.heap.size w3 w4 := by rw [hw4]; exact below_alloc _ _
      have B4 := Lib.hid (nextB (nextB B1.out hb3) hb4); clear hb3 hb4
      have HI := Lib.hid (show IntsV w4 w4.heap.size (.slice (some ⟨w3.heap.size, 0, none⟩) 2 2) [i, i] by rw [hw4]; exact IntsV.new w3 [i, i])
      clear d1 d3 d4
      go_wp2_with fail
      rw [← hw4]
      clear hw4
      refine (of_lit q w4 HI.out (by simp) HQ2.out).mono ?_
      rintro e w' ⟨rfl, rfl⟩
      clear HI
      go_wp2_with fail
      refine (list_any q w4 (by omega)).mono ?_
      rintro e w5 ⟨v5, rfl, ⟨A5, c5, rfl, _⟩, hb5⟩
      rw [nats_length]
      have B5 := Lib.hid (nextB B4.out hb5); clear hb5
      go_wp2_with fail
      refine (HR.out _).mono ?_
      rintro e w' ⟨rfl, rfl⟩
      go_wp2_with fail
      go_ret
      exact ⟨rfl, B5.out⟩
    · go_wp2_with fail
      refine (list_any q w2 (by omega)).mono ?_
      rintro e w3 ⟨v3, rfl, ⟨A3, c3, rfl, _⟩, hb3⟩
      rw [nats_length]
      obtain ⟨w4, hw4⟩ : ∃ w4, w4 = w3.alloc (.cells #[.int .i64 i, .int .i64 i] 3) := ⟨_, rfl⟩
      have hb4 : Below w3.heap.size w3 w4 := by rw [hw4]; exact below_alloc _ _
      have B4 := Lib.hid (nextB (nextB B1.out hb3) hb4); clear hb3 hb4
      have HI := Lib.hid (show IntsV w4 w4.heap.size (.slice (some ⟨w3.heap.size, 0, none⟩) 2 2) [i, i] by rw [hw4]; exact IntsV.new w3 [i, i])
      clear d1 d3 d4
      go_wp2_with fail
      rw [← hw4]
      clear hw4
      refine (of_lit q w4 HI.out (by simp) HQ2.out).mono ?_
      rintro e w' ⟨rfl, rfl⟩
      clear HI
      go_wp2_with fail
      refine (list_any q w4 (by omega)).mono ?_
      rintro e w5 ⟨v5, rfl, ⟨A5, c5, rfl, _⟩, hb5⟩
      rw [nats_length]
      have B5 := Lib.hid (nextB B4.out hb5); clear hb5
      go_wp2_with fail
      refine (HR.out _).mono ?_
      rintro e w' ⟨rfl, rfl⟩
      go_wp2_with fail
      go_ret
      exact ⟨rfl, B5.out⟩

/- The claim. -/

set_option maxRecDepth 100000 in
theorem lifted (os : Os) (started : os.Started) (H : Type) (enc : TypeId × Value → H) :
    ReturnsInHanded {} Try.checked os 4 .any (Rows.privAllSpec.pre6 enc Try.prog Try.f4 Rows.privAllRow.domain false) (Rows.privAllSpec.post enc Try.prog Try.f4 false true false false) := by
  refine returnsInHanded_of_change (C := Try.checked) ownKnobs started (by kernel_rfl) Try.func4
    (ChangeSpec.witness6 (enc := enc) (C := Try.checked) false ⟨#[], #[.int .u32 0, .int .u32 0, .int .u32 0, .int .u32 0, .int .i64 0], []⟩ 8 (by kernel_rfl) (by kernel_rfl) (by kernel_rfl) (by kernel_rfl)) ?_
  intro W base args ds gs before hval hW _ _
  refine law_contract rfl rfl (fun ds h => by match ds, h with | [d1, d2, d3, d4, d5], _ => rfl) (by decide +kernel) hW ?_
  obtain ⟨p, q, hA0, _⟩ := hW
  have hA : DataW.TrodAll enc Try.prog W 0 (fun _ => true) true Try.f4.params.toList args.toList ds p := hA0
  have hval' : ∀ (j : Nat) t v, Try.f4.params[j]? = some t → args[j]? = some v → Value.okWide Try.prog W .any base t v := hval
  rw [Try.params4] at hA hval'
  obtain ⟨v0, vs0, d0, ds0, p0, q0, hargs, rfl, rfl, h0, r0⟩ := trodAll_cons hA
  obtain ⟨v1, vs1, d1, ds1, p1, q1, rfl, rfl, rfl, h1, r1⟩ := trodAll_cons r0
  obtain ⟨v2, vs2, d2, ds2, p2, q2, rfl, rfl, rfl, h2, r2⟩ := trodAll_cons r1
  obtain ⟨v3, vs3, d3, ds3, p3, q3, rfl, rfl, rfl, h3, r3⟩ := trodAll_cons r2
  obtain ⟨v4, vs4, d4, ds4, p4, q4, rfl, rfl, rfl, h4, r4⟩ := trodAll_cons r3
  obtain ⟨rfl, rfl, rfl⟩ := trodAll_nil r4
  obtain rfl : args = #[v0, v1, v2, v3, v4] := by cases args; simp_all
  obtain ⟨z0, rfl, rfl, rfl, w0⟩ := open_int Try.underlying22 (hval' 0 _ v0 rfl rfl) h0
  have b0 : 0 ≤ z0 ∧ z0 ≤ 4294967295 := by simpa [Lit.wf, IntKind.min, IntKind.max, IntKind.signed, IntKind.bits] using w0
  obtain ⟨a0, rfl⟩ : ∃ n : Nat, z0 = n := ⟨z0.toNat, by omega⟩
  obtain ⟨z1, rfl, rfl, rfl, w1⟩ := open_int Try.underlying22 (hval' 1 _ v1 rfl rfl) h1
  have b1 : 0 ≤ z1 ∧ z1 ≤ 4294967295 := by simpa [Lit.wf, IntKind.min, IntKind.max, IntKind.signed, IntKind.bits] using w1
  obtain ⟨a1, rfl⟩ : ∃ n : Nat, z1 = n := ⟨z1.toNat, by omega⟩
  obtain ⟨z2, rfl, rfl, rfl, w2⟩ := open_int Try.underlying22 (hval' 2 _ v2 rfl rfl) h2
  have b2 : 0 ≤ z2 ∧ z2 ≤ 4294967295 := by simpa [Lit.wf, IntKind.min, IntKind.max, IntKind.signed, IntKind.bits] using w2
  obtain ⟨a2, rfl⟩ : ∃ n : Nat, z2 = n := ⟨z2.toNat, by omega⟩
  obtain ⟨z3, rfl, rfl, rfl, w3⟩ := open_int Try.underlying22 (hval' 3 _ v3 rfl rfl) h3
  have b3 : 0 ≤ z3 ∧ z3 ≤ 4294967295 := by simpa [Lit.wf, IntKind.min, IntKind.max, IntKind.signed, IntKind.bits] using w3
  obtain ⟨a3, rfl⟩ : ∃ n : Nat, z3 = n := ⟨z3.toNat, by omega⟩
  obtain ⟨a4, rfl, rfl, rfl, w4⟩ := open_int Try.underlying3 (hval' 4 _ v4 rfl rfl) h4
  have b4 : -9223372036854775808 ≤ a4 ∧ a4 ≤ 9223372036854775807 := by simpa [Lit.wf, IntKind.min, IntKind.max, IntKind.signed, IntKind.bits] using w4
  exact walk a0 a1 a2 a3 a4 W (by omega) (by omega) (by omega) (by omega)

theorem proved : Rows.PrivAllSaid :=
  OpenClaim.holds_of_wide 4 Try.f4 rfl rfl rfl rfl rfl rfl rfl ⟨rfl, rfl, rfl, rfl, rfl⟩ rfl rfl rfl rfl rfl (by kernel_rfl) Try.func4 (by kernel_rfl)
    (of_decide_eq_true (by kernel_rfl)) (by unfold Func.isWrapper; first | (rw [if_pos (by decide +kernel)]; kernel_rfl) | (rw [if_neg (by decide +kernel)]; exact ⟨rfl, rfl⟩))
    (fun os started H enc _ => lifted os started H enc)

end Go.Proofs.Ythffheakhadlhaa.privAll
