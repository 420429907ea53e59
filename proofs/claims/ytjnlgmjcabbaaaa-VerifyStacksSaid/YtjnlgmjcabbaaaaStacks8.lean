/- VerifyStacks returns true for every input and changes nothing: a stack of 32 values is accepted, one more and one too few are errors at their instruction, and Depths tells the depth at the end. No condition. -/
import Derived.Test.YtjnlgmjcabbaaaaStk8
import Derived.Test.YtjnlgmjcabbaaaaOwnI8
import Derived.Test.YtjnlgmjcabbaaaaLaw
namespace Go.Proofs.Ytjnlgmjcabbaaaa.verifyStacks
set_option maxRecDepth 100000
open Go.RowKit Go.ChangeShapes Go.WideShapes Go.ChangeAt

theorem mod_of (k m : Nat) (hm : 0 < m) : ∃ i : Nat, (k : Int) % (m : Int) = (i : Int) ∧ i < m := ⟨k % m, by omega, Nat.mod_lt _ hm⟩

set_option maxRecDepth 100000 in
set_option maxHeartbeats 8000000 in
theorem walk (n q : Nat) (w : World) :
    Calls Try.prog 4 #[.int .u8 n, .int .u8 q] w fun e w' => e = .returned (.bool true) ∧ Below w.heap.size w w' := by
  obtain ⟨k, hk, hk40⟩ := mod_of n 40 (by decide)
  obtain ⟨p, hp, hp44⟩ := mod_of q 44 (by decide)
  have hk' : (n : Int) % 40 = k := hk
  have hp' : (q : Int) % 44 = p := hp
  obtain ⟨r1, r2, D, hr, hD, h1, h2, h3⟩ := stk_all k p hk40 hp44
  have HR := Lib.hid hr; have HD := Lib.hid hD; have H1 := Lib.hid h1; have H2 := Lib.hid h2; have H3 := Lib.hid h3
  clear hk hp hr hD h1 h2 h3
  go_enter Try.func4, Try.ntmps4
  go_wp2_with fail
  refine (known8_any w).mono ?_
  rintro e w1 ⟨rfl, hb⟩
  have B1 := Lib.hid hb; have B0 := Lib.hid hb.size; clear hb
  go_wp2_with fail
  rw [hk']
  have HK' := Lib.hid hk'
  clear hk'
  go_loopw [6, 7] (fun v i wr => ∃ j : Nat, j ≤ k ∧ i = .int .i64 j ∧ OwnI wr w1.heap.size v (pushL j) ∧ Below w1.heap.size w1 wr) (fun _ i _ => k - (intOf i).toNat)
  case atStart => exact ⟨0, Nat.zero_le _, rfl, OwnI.nil _ _, Below.refl _ _⟩
  case round =>
    obtain ⟨j, hj, rfl, ho, hb⟩ := hrel
    have HO := Lib.hid ho; have HB := Lib.hid hb; clear ho hb
    by_cases hjk : j < k
    · go_wp2_with (at_builtin; go_must (refine wpList_append_new 29 32 (.agg #[.int .i64 0, .int .i32 0]) 2 16 Try.underlying29 inf_instr rfl (by decide) (by decide) rfl (.tmp 22) (.tmp 26) rfl w1.heap.size _ _ _ _ [.int .i64 1, .int .i32 j] rfl rfl HO.out rfl rfl ?c1 ?c2 ?c3 ?_))
      case c1 => exact one_cells _ _
      case c2 => rw [pushL_length]; omega
      case c3 => exact HB.out.size
      intro v3 w3 ho hg _
      have HO3 : Hid (OwnI w3 w1.heap.size v3 (pushL (j + 1))) := Lib.hid (by rw [pushL_succ]; exact OwnI.snoc ho)
      have HB3 := Lib.hid (HB.out.grown hg HB.out.size (fun k hk => (World.ownsRow.lt HO.out k hk).1))
      clear ho hg HO HB
      go_wp2_with fail
      go_roundw
      case rel => exact ⟨j + 1, by omega, by go_num, HO3.out, HB3.out⟩
      case measure => simp [intOf]; omega
    · obtain rfl : k = j := by omega
      have B2 := Lib.hid (nextB B1.out HB.out)
      have HW := Lib.hid HB.out.size
      clear HB B1
      go_wp2_with fail
      go_loopw [6, 8] (fun v i wr => ∃ j : Nat, j ≤ p ∧ i = .int .i64 j ∧ OwnI wr w1.heap.size v (pushL k ++ popL j) ∧ w1.heap.size ≤ wr.heap.size ∧ Below w.heap.size w wr) (fun _ i _ => p - (intOf i).toNat)
      case atStart => exact ⟨0, Nat.zero_le _, rfl, by show OwnI _ _ _ (pushL k ++ []); rw [List.append_nil]; exact HO.out, HW.out, B2.out⟩
      case round =>
        clear HO HW B2
        obtain ⟨j, hj, rfl, ho, hw, hb⟩ := hrel
        have HO := Lib.hid ho; have HB := Lib.hid hb; have HW := Lib.hid hw; clear ho hb hw
        by_cases hjk : j < p
        · go_wp2_with (at_builtin; go_must (refine wpList_append_new 29 32 (.agg #[.int .i64 0, .int .i32 0]) 2 16 Try.underlying29 inf_instr rfl (by decide) (by decide) rfl (.tmp 35) (.tmp 37) rfl w1.heap.size _ _ _ _ [.int .i64 2, .int .i32 0] rfl rfl HO.out rfl rfl ?c1 ?c2 ?c3 ?_))
          case c1 => exact one_cells _ _
          case c2 => rw [List.length_append, pushL_length, popL_length]; omega
          case c3 => exact HW.out
          intro v3 w3 ho hg _
          have HO3 : Hid (OwnI w3 w1.heap.size v3 (pushL k ++ popL (j + 1))) := Lib.hid (by rw [popL_succ, ← List.append_assoc]; exact OwnI.snoc (by rw [List.length_append]; exact ho))
          have HB3 := Lib.hid ((Below.refl w1.heap.size _).grown hg HW.out (fun k hk => (World.ownsRow.lt HO.out k hk).1))
          have HB4 := Lib.hid (HB.out.trans (HB3.out.mono B0.out))
          have HW4 := Lib.hid (Nat.le_trans HW.out HB3.out.size)
          clear ho hg HO HB HB3 HW
          go_wp2_with fail
          go_roundw
          case rel => exact ⟨j + 1, by omega, by go_num, HO3.out, HW4.out, HB4.out⟩
          case measure => simp [intOf]; omega
        · obtain rfl : p = j := by omega
          go_wp2_with (at_builtin; go_must (refine wpList_append_new 29 32 (.agg #[.int .i64 0, .int .i32 0]) 2 16 Try.underlying29 inf_instr rfl (by decide) (by decide) rfl (.tmp 39) (.tmp 41) rfl w1.heap.size _ _ _ _ [.int .i64 26, .int .i32 0] rfl rfl HO.out rfl rfl ?c1 ?c2 ?c3 ?_))
          case c1 => exact one_cells _ _
          case c2 => rw [List.length_append, pushL_length, popL_length]; omega
          case c3 => exact HW.out
          intro v3 w3 ho hg _
          have hown3 : OwnI w3 w1.heap.size v3 (stk k p) := OwnI.snoc (by rw [List.length_append]; exact ho)
          have HR3 := Lib.hid (RowI.of_own hown3 (stk_i32 (by omega)))
          have HB3 := Lib.hid ((Below.refl w1.heap.size _).grown hg HW.out (fun k hk => (World.ownsRow.lt HO.out k hk).1))
          have HB4 := Lib.hid (HB.out.trans (HB3.out.mono B0.out))
          obtain ⟨A3, c3, hv3⟩ := hown3.slice
          obtain ⟨N, hN⟩ : ∃ N, k + p + 1 = N := ⟨_, rfl⟩
          have hl3 := stk_length k p
          rw [hN] at hl3
          rw [hl3] at hv3
          subst hv3
          have HL3 := Lib.hid hl3; have HN := Lib.hid hN
          clear ho hg HO HB HB3 HW hown3 hl3 hN
          go_wp2_with fail
          refine (func_lit w3 HR3.out (by rw [HL3.out]; have := HN.out; omega) HR.out).mono ?_
          rintro e w4 ⟨rfl, hb⟩
          have HR4 := Lib.hid (HR3.out.later hb)
          have HB5 := Lib.hid (nextB HB4.out hb)
          clear hb HR3 HB4
          by_cases h32 : 32 < k
          · obtain ⟨rfl, rfl⟩ := H1.out h32
            go_wp2_with fail
            go_ret
            exact ⟨rfl, HB5.out⟩
          · by_cases hkp : k < p
            · obtain ⟨e1, rfl⟩ := H2.out (by omega) hkp
              have e2 : wrap64 (2 * (k : Int)) = r1 := by rw [e1]; unfold wrap64; omega
              go_wp2_with fail
              go_ret
              exact ⟨by simp [e1], HB5.out⟩
            · obtain ⟨rfl, d1, d2⟩ := H3.out (by omega) (by omega)
              have D1 := Lib.hid d1; have D2 := Lib.hid d2
              clear d1 d2
              go_wp2_with fail
              refine (depths_lit w4 HR4.out (by rw [HL3.out]; have := HN.out; omega) HD.out).mono ?_
              rintro e w5 ⟨⟨v, rfl, hI⟩, hb⟩
              have HB6 := Lib.hid (nextB HB5.out hb)
              obtain ⟨AD, cD, rfl, hl⟩ := hI
              obtain ⟨b, off, rfl, _, hc⟩ := lie_int hl (k := k + p) (by rw [D1.out]; omega)
              have hv : D[k + p]'(by rw [D1.out]; omega) = (k : Int) - p := by rw [← D2.out, List.getD_eq_getElem?_getD, List.getElem?_eq_getElem (by rw [D1.out]; omega)]; rfl
              rw [hv] at hc
              rw [D1.out, HN.out]
              have hkN : (N : Int) - 1 = ((k + p : Nat) : Int) := by have := HN.out; omega
              have hkN2 : k + p < N := by have := HN.out; omega
              have hkN3 : wrap64 ((N : Int) - 1) = ((k + p : Nat) : Int) := by unfold wrap64; omega
              clear hl hb HB5 HR4 hv
              go_wp2_with fail
              go_ret
              exact ⟨rfl, HB6.out⟩

/- The claim. -/

set_option maxRecDepth 100000 in
theorem lifted (os : Os) (started : os.Started) (H : Type) (enc : TypeId × Value → H) :
    ReturnsInHanded {} Try.checked os 4 .any (Rows.verifyStacksSpec.pre6 enc Try.prog Try.f4 Rows.verifyStacksRow.domain false) (Rows.verifyStacksSpec.post enc Try.prog Try.f4 false true false false) := by
  refine returnsInHanded_of_change (C := Try.checked) ownKnobs started (by kernel_rfl) Try.func4
    (ChangeSpec.witness6 (enc := enc) (C := Try.checked) false ⟨#[], #[.int .u8 0, .int .u8 0], []⟩ 8 (by kernel_rfl) (by kernel_rfl) (by kernel_rfl) (by kernel_rfl)) ?_
  intro W base args ds gs before hval hW _ _
  refine law_contract rfl rfl (fun ds h => by match ds, h with | [d1, d2], _ => rfl) (by decide +kernel) hW ?_
  obtain ⟨p, q, hA0, _⟩ := hW
  have hA : DataW.TrodAll enc Try.prog W 0 (fun _ => true) true Try.f4.params.toList args.toList ds p := hA0
  have hval' : ∀ (j : Nat) t v, Try.f4.params[j]? = some t → args[j]? = some v → Value.okWide Try.prog W .any base t v := hval
  rw [Try.params4] at hA hval'
  obtain ⟨v0, vs0, d0, ds0, p0, q0, hargs, rfl, rfl, h0, r0⟩ := trodAll_cons hA
  obtain ⟨v1, vs1, d1, ds1, p1, q1, rfl, rfl, rfl, h1, r1⟩ := trodAll_cons r0
  obtain ⟨rfl, rfl, rfl⟩ := trodAll_nil r1
  obtain rfl : args = #[v0, v1] := by cases args; simp_all
  obtain ⟨z0, rfl, rfl, rfl, w0⟩ := open_int Try.underlying5 (hval' 0 _ v0 rfl rfl) h0
  have b0 : 0 ≤ z0 ∧ z0 ≤ 255 := by simpa [Lit.wf, IntKind.min, IntKind.max, IntKind.signed, IntKind.bits] using w0
  obtain ⟨a0, rfl⟩ : ∃ n : Nat, z0 = n := ⟨z0.toNat, by omega⟩
  obtain ⟨z1, rfl, rfl, rfl, w1⟩ := open_int Try.underlying5 (hval' 1 _ v1 rfl rfl) h1
  have b1 : 0 ≤ z1 ∧ z1 ≤ 255 := by simpa [Lit.wf, IntKind.min, IntKind.max, IntKind.signed, IntKind.bits] using w1
  obtain ⟨a1, rfl⟩ : ∃ n : Nat, z1 = n := ⟨z1.toNat, by omega⟩
  exact walk a0 a1 W

theorem proved : Rows.VerifyStacksSaid :=
  OpenClaim.holds_of_wide 4 Try.f4 rfl rfl rfl rfl rfl rfl rfl ⟨rfl, rfl, rfl, rfl, rfl⟩ rfl rfl rfl rfl rfl (by kernel_rfl) Try.func4 (by kernel_rfl)
    (of_decide_eq_true (by kernel_rfl)) (by unfold Func.isWrapper; first | (rw [if_pos (by decide +kernel)]; kernel_rfl) | (rw [if_neg (by decide +kernel)]; exact ⟨rfl, rfl⟩))
    (fun os started H enc _ => lifted os started H enc)

end Go.Proofs.Ytjnlgmjcabbaaaa.verifyStacks
