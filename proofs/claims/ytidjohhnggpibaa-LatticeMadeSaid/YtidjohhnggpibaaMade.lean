/- LatticeMade returns true for every input and changes nothing: Powers and Chain return the documented tables for every number, and these are lattices. No condition. -/
import Derived.Test.YtidjohhnggpibaaKnown3
import Derived.Test.YtidjohhnggpibaaLaw
import Derived.Deep.CutRange
import Derived.Deep.DeepCutAuto
namespace Go.Proofs.Ytidjohhnggpibaa.latticeMade
open Go.RowKit Go.ChangeShapes Go.WideShapes Go.ChangeAt

theorem at_three {x y z : Int} {j : Nat} (h : j < 3) : j < [x, y, z].length := by simpa using h

set_option maxRecDepth 100000 in
set_option maxHeartbeats 8000000 in
theorem walk (n : Int) (k : Nat) (w : World) (_hn : -9223372036854775808 ≤ n ∧ n ≤ 9223372036854775807) (hk : k ≤ 255) :
    Calls Try.prog 5 #[.int .i64 n, .int .u8 k] w fun e w' => e = .returned (.bool true) ∧ Below w.heap.size w w' := by
  by_cases hhi : 1000 < n
  · have e1 : decide (1000 < n) = true := by simpa using hhi
    clear hhi
    go_enter Try.func5, Try.ntmps5
    go_wp2_with fail
    refine (known_any w).mono ?_
    rintro e w1 ⟨rfl, B1⟩
    go_wp2_with fail
    go_ret
    exact ⟨rfl, B1⟩
  by_cases hlo : n < -1000
  · have e1 : decide (1000 < n) = false := by simpa using hhi
    have e2 : decide (n < -1000) = true := by simpa using hlo
    clear hhi hlo
    go_enter Try.func5, Try.ntmps5
    go_wp2_with fail
    refine (known_any w).mono ?_
    rintro e w1 ⟨rfl, B1⟩
    go_wp2_with fail
    go_ret
    exact ⟨rfl, B1⟩
  have e1 : decide (1000 < n) = false := by simpa using hhi
  have e2 : decide (n < -1000) = false := by simpa using hlo
  clear hhi hlo
  obtain ⟨m, hm⟩ : ∃ m : Nat, (k : Int) % 20 = m := ⟨k % 20, by omega⟩
  have hm20 : m < 20 := by omega
  obtain ⟨p, hp⟩ : ∃ p : Nat, (k : Int) % 5 = p := ⟨k % 5, by omega⟩
  have hp5 : p < 5 := by omega
  obtain ⟨q, hq⟩ : ∃ q : Nat, (k : Int) % 16 = q := ⟨k % 16, by omega⟩
  have hq16 : q < 16 := by omega
  go_enter Try.func5, Try.ntmps5
  go_wp2_with fail
  refine (known_any w).mono ?_
  rintro e w1 ⟨rfl, B1⟩
  have HB1 := Lib.hid B1; clear B1
  go_wp2_with fail
  obtain ⟨w2, hw2⟩ : ∃ w2 : World, w2 = w1.alloc (.cells #[.int .i64 n, .int .i64 (m : Int), .int .i64 (-1)] 3) := ⟨_, rfl⟩
  obtain ⟨gb, hgb⟩ : ∃ gb, w1.heap.size = gb := ⟨_, rfl⟩
  have hs2 : w2.heap.size = gb + 1 := by rw [hw2, World.size_alloc, hgb]
  have HI := Lib.hid (show Lies w2 w2.heap.size (some ⟨gb, 0, none⟩) (i64s [n, (m : Int), -1]) by rw [hs2, hw2, ← hgb]; exact lies_new w1 _ _)
  have HB2 := Lib.hid (show Below w.heap.size w w2 from nextB HB1.out (by rw [hw2]; exact below_alloc _ _))
  have HW2 := Lib.hid hw2; clear hw2
  rw [← HW2.out]
  try rw [hgb]
  clear HW2 HB1 hs2
  try rw [hm]
  go_loopw [25] (fun i wr => ∃ j : Nat, j ≤ 3 ∧ i = .int .i64 j ∧ Below w2.heap.size w2 wr) (fun i _ => 3 - (intOf i).toNat)
  case atStart => exact ⟨0, by omega, rfl, Below.refl _ _⟩
  case round =>
    obtain ⟨j, hj, rfl, hb⟩ := hrel
    have HB := Lib.hid hb; clear hb
    by_cases hj3 : j < 3
    · have d1 : decide ((j : Int) < 3) = true := by simp; omega
      obtain ⟨b, o, hbo, hbl, hc⟩ := lie_int HI.out (k := j) (at_three hj3)
      injection hbo with hbo
      injection hbo with hb1 hb2 _
      subst hb1 hb2
      have hcr : wr.cell? ⟨gb, 0 + j, none⟩ = some (.int .i64 ([n, (m : Int), -1][j]'(at_three hj3))) := (HB.out.cell (p := ⟨gb, 0 + j, none⟩) hbl).trans hc
      rw [Nat.zero_add] at hcr
      clear hc hbl
      generalize [n, (m : Int), -1][j]'(at_three hj3) = x at *
      go_wp2_with fail
      refine (powers_any x wr).mono ?_
      rintro e w3 ⟨u, rfl, ht, hb⟩
      have HU := Lib.hid ht; clear ht
      have B3 := Lib.hid (HB.out.trans (hb.mono HB.out.size)); clear hb hcr
      go_wp2_with fail
      refine (refPow_any x w3).mono ?_
      rintro e w4 ⟨v, rfl, ht, hb⟩
      have HV := Lib.hid ht; clear ht
      have HU4 := Lib.hid (HU.out.later hb)
      have B4 := Lib.hid (B3.out.trans (hb.mono B3.out.size)); clear hb
      go_wp2_with fail
      refine (same_any w4 (powT_or x) HU4.out HV.out).mono ?_
      rintro e w5 ⟨rfl, hb⟩
      have B5 := Lib.hid (B4.out.trans (hb.mono B4.out.size)); clear hb
      clear HU HV HU4 B3 B4
      go_wp2_with fail
      refine (chains_any x w5).mono ?_
      rintro e w6 ⟨u, rfl, ht, hb⟩
      have HU := Lib.hid ht; clear ht
      have B6 := Lib.hid (B5.out.trans (hb.mono B5.out.size)); clear hb
      go_wp2_with fail
      refine (refChain_any x w6).mono ?_
      rintro e w7 ⟨v, rfl, ht, hb⟩
      have HV := Lib.hid ht; clear ht
      have HU7 := Lib.hid (HU.out.later hb)
      have B7 := Lib.hid (B6.out.trans (hb.mono B6.out.size)); clear hb
      go_wp2_with fail
      refine (same_any w7 (chT_or x) HU7.out HV.out).mono ?_
      rintro e w8 ⟨rfl, hb⟩
      have B8 := Lib.hid (B7.out.trans (hb.mono B7.out.size)); clear hb
      clear HU HV HU7 B5 B6 B7 HB
      go_wp2_with fail
      go_roundw
      case rel => exact ⟨j + 1, by omega, by go_num, B8.out⟩
      case measure => simp [intOf]; omega
    · obtain rfl : j = 3 := by omega
      have HBR := Lib.hid (nextB HB2.out HB.out)
      clear HB HI
      go_wp2_with fail
      refine (powers_any p wr).mono ?_
      rw [powT_yes (show p ≤ 4 by omega)]
      rintro e w3 ⟨u, rfl, ht, hb⟩
      have HU := Lib.hid ht; clear ht
      have B3 := Lib.hid (nextB HBR.out hb); clear hb
      go_wp2_with fail
      refine (new_any w3 HU.out).mono ?_
      rintro e w4 hm
      obtain ⟨g, rfl, _, hb⟩ := hm.yes (pow_lat p (by omega))
      clear hm
      have B4 := Lib.hid (nextB B3.out hb); clear hb HU
      go_wp2_with fail
      have hqq : (q : Int) + 1 = ((q + 1 : Nat) : Int) := by omega
      rw [hqq]
      clear hqq
      refine (chains_any ((q + 1 : Nat) : Int) w4).mono ?_
      rw [chT_yes (show 1 ≤ q + 1 by omega) (show q + 1 ≤ 16 by omega)]
      rintro e w5 ⟨u, rfl, ht, hb⟩
      have HU := Lib.hid ht; clear ht
      have B5 := Lib.hid (nextB B4.out hb); clear hb
      go_wp2_with fail
      refine (new_any w5 HU.out).mono ?_
      rintro e w6 hm
      obtain ⟨g', rfl, _, hb⟩ := hm.yes (chain_lat q hq16)
      clear hm
      have B6 := Lib.hid (nextB B5.out hb); clear hb HU
      go_wp2_with fail
      go_ret
      exact ⟨rfl, B6.out⟩

/- The claim. -/

set_option maxRecDepth 100000 in
theorem lifted (os : Os) (started : os.Started) (H : Type) (enc : TypeId × Value → H) :
    ReturnsInHanded {} Try.checked os 5 .any (Rows.latticeMadeSpec.pre6 enc Try.prog Try.f5 Rows.latticeMadeRow.domain false) (Rows.latticeMadeSpec.post enc Try.prog Try.f5 false true false false) := by
  refine returnsInHanded_of_change (C := Try.checked) ownKnobs started (by kernel_rfl) Try.func5
    (ChangeSpec.witness6 (enc := enc) (C := Try.checked) false ⟨#[], #[.int .i64 0, .int .u8 0], []⟩ 8 (by kernel_rfl) (by kernel_rfl) (by kernel_rfl) (by kernel_rfl)) ?_
  intro W base args ds gs before hval hW _ _
  refine law_contract rfl rfl (fun ds h => by match ds, h with | [d1, d2], _ => rfl) (by decide +kernel) hW ?_
  obtain ⟨p, q, hA0, _⟩ := hW
  have hA : DataW.TrodAll enc Try.prog W 0 (fun _ => true) true Try.f5.params.toList args.toList ds p := hA0
  have hval' : ∀ (j : Nat) t v, Try.f5.params[j]? = some t → args[j]? = some v → Value.okWide Try.prog W .any base t v := hval
  rw [Try.params5] at hA hval'
  obtain ⟨v0, vs0, d0, ds0, p0, q0, hargs, rfl, rfl, h0, r0⟩ := trodAll_cons hA
  obtain ⟨v1, vs1, d1, ds1, p1, q1, rfl, rfl, rfl, h1, r1⟩ := trodAll_cons r0
  obtain ⟨rfl, rfl, rfl⟩ := trodAll_nil r1
  obtain rfl : args = #[v0, v1] := by cases args; simp_all
  obtain ⟨a0, rfl, rfl, rfl, w0⟩ := open_int Try.underlying3 (hval' 0 _ v0 rfl rfl) h0
  have b0 : -9223372036854775808 ≤ a0 ∧ a0 ≤ 9223372036854775807 := by simpa [Lit.wf, IntKind.min, IntKind.max, IntKind.signed, IntKind.bits] using w0
  obtain ⟨z1, rfl, rfl, rfl, w1⟩ := open_int Try.underlying5 (hval' 1 _ v1 rfl rfl) h1
  have b1 : 0 ≤ z1 ∧ z1 ≤ 255 := by simpa [Lit.wf, IntKind.min, IntKind.max, IntKind.signed, IntKind.bits] using w1
  obtain ⟨a1, rfl⟩ : ∃ n : Nat, z1 = n := ⟨z1.toNat, by omega⟩
  exact walk a0 a1 W b0 (by omega)

theorem proved : Rows.LatticeMadeSaid :=
  OpenClaim.holds_of_wide 5 Try.f5 rfl rfl rfl rfl rfl rfl rfl ⟨rfl, rfl, rfl, rfl, rfl⟩ rfl rfl rfl rfl rfl (by kernel_rfl) Try.func5 (by kernel_rfl)
    (of_decide_eq_true (by kernel_rfl)) (by unfold Func.isWrapper; first | (rw [if_pos (by decide +kernel)]; kernel_rfl) | (rw [if_neg (by decide +kernel)]; exact ⟨rfl, rfl⟩))
    (fun os started H enc _ => lifted os started H enc)

end Go.Proofs.Ytidjohhnggpibaa.latticeMade
