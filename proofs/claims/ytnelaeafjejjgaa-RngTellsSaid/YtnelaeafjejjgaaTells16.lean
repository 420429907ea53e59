/- RngTells returns true for every input and changes nothing: Next, Below and Step return the documented numbers for every seed and sequence of calls. No condition. -/
import Derived.Test.YtnelaeafjejjgaaKnown16
import Derived.Test.YtnelaeafjejjgaaArgI
namespace Go.Proofs.Ytnelaeafjejjgaa.rngTells
set_option maxRecDepth 100000
open Go.RowKit Go.ChangeShapes Go.WideShapes Go.ChangeAt

theorem i64_and15 (n : Int) : bits .and .i64 n 15 = n % 16 := by
  have h15 : (BitVec.ofInt 64 15).toNat = 2 ^ 4 - 1 := by decide
  have key : (BitVec.ofInt 64 n &&& BitVec.ofInt 64 15).toNat = (n % ((2 ^ 64 : Nat) : Int)).toNat % 2 ^ 4 := by
    rw [BitVec.toNat_and, BitVec.toNat_ofInt, h15, Nat.and_two_pow_sub_one_eq_mod]
  show IntKind.i64.wrap ((BitVec.ofInt 64 n &&& BitVec.ofInt 64 15).toNat : Nat) = n % 16
  rw [key, IntKind.wrap_i64]
  omega

def Has (W w : World) (g s : Nat) : Prop := RngB w g s ∧ Below W.heap.size W w
def St (W wr : World) (g n : Nat) (i : Value) (v : Value) : Prop := ∃ k q : Nat, k ≤ n ∧ i = .int .i64 k ∧ v = .int .u64 q ∧ q < 18446744073709551616 ∧ Has W wr g q

set_option maxRecDepth 100000 in
set_option maxHeartbeats 16000000 in
theorem walk (s u : Nat) (lv : Value) (l : List Int) (w : World) (hs : s < 18446744073709551616) (hu : u < 18446744073709551616)
    (hl : IntsV w w.heap.size lv l) (hr : ∀ x ∈ l, -9223372036854775808 ≤ x ∧ x ≤ 9223372036854775807) (hmx : l.length ≤ maxLen) :
    Calls Try.prog 5 #[.int .u64 s, lv, .int .u64 u] w fun e w' => e = .returned (.bool true) ∧ Below w.heap.size w w' := by
  obtain ⟨A, c, rfl, hl⟩ := hl
  have HL := Lib.hid hl; have HR := Lib.hid hr; clear hl hr
  obtain ⟨n, hn⟩ : ∃ n, l.length = n := ⟨_, rfl⟩
  have HLN := Lib.hid hn
  rw [hn] at hmx ⊢
  unfold maxLen at hmx
  clear hn
  by_cases h40 : 40 < n
  · go_enter Try.func5, Try.ntmps5
    go_wp2_with fail
    refine (known16_any w).mono ?_
    rintro e w1 ⟨rfl, hb1⟩
    go_wp2_with fail
    go_ret
    exact ⟨rfl, hb1⟩
  have h40' : n ≤ 40 := by omega
  have H0 := Lib.hid (seed1_lt hs)
  have HNew := Lib.hid (fun w => newRng_any s w)
  have HSD : Hid ((s = 0 → seed1 s = 1) ∧ (s ≠ 0 → seed1 s = s)) := Lib.hid ⟨fun e => if_pos e, fun e => if_neg e⟩
  have HS1 := Lib.hid (fun w => step16_any u w hu)
  have HS2 := Lib.hid (fun w => refStep16_any u w hu)
  obtain ⟨s0, hs0⟩ : ∃ s0, seed1 s = s0 := ⟨_, rfl⟩
  rw [hs0] at H0 HNew HSD
  obtain ⟨su, hsu⟩ : ∃ su, stepN u = su := ⟨_, rfl⟩
  rw [hsu] at HS1 HS2
  have esu : ((su : Int) == (su : Int)) = true := beq_self_eq_true _
  clear hs hs0 hu hsu
  have hcase : (s = 0 ∧ s0 = 1) ∨ (s ≠ 0 ∧ s0 = s) := by
    by_cases h : s = 0
    · exact .inl ⟨h, HSD.out.1 h⟩
    · exact .inr ⟨h, HSD.out.2 h⟩
  clear HSD
  rcases hcase with ⟨rfl, rfl⟩ | ⟨hne, rfl⟩
  all_goals
    try rw [show ((0 : Nat) : Int) = 0 from rfl]
    try have hne' : ((s0 : Int) == 0) = false := by simp; omega
    go_enter Try.func5, Try.ntmps5
    go_wp2_with fail
    refine (known16_any w).mono ?_
    rintro e w1 ⟨rfl, hb1⟩
    have B1 := Lib.hid hb1; clear hb1
    go_wp2_with fail
    refine (HNew.out w1).mono ?_
    rintro e w2 ⟨g, rfl, hr2, hg, hb2⟩
    have R2 := Lib.hid (show Has w1 w2 g _ from ⟨hr2, hb2⟩); clear hr2 hb2
    go_wp2_with fail
    go_loopw [8, 9] (fun v i wr => St w1 wr g n i v) (fun _ i _ => n - (intOf i).toNat)
    case atStart => exact ⟨0, _, Nat.zero_le _, rfl, rfl, H0.out, R2.out⟩
    case round =>
      obtain ⟨k, q, hk, rfl, rfl, hq, ht⟩ := hrel
      clear R2 H0
      have T := Lib.hid ht; have HQ := Lib.hid hq; clear ht hq
      by_cases hkn : k < n
      · have hkl : k < l.length := by rw [HLN.out]; exact hkn
        obtain ⟨b, off, rfl, hb, c1⟩ := lie_int HL.out hkl
        have hx := HR.out l[k] (List.getElem_mem hkl)
        have c2 : wr.cell? ⟨b, off + k, none⟩ = some (.int .i64 l[k]) := by
          rw [T.out.2.cell (p := ⟨b, off + k, none⟩) (by have := B1.out.size; show b < _; omega), B1.out.cell (p := ⟨b, off + k, none⟩) hb, c1]
        clear c1
        obtain ⟨x, hxx⟩ : ∃ x, l[k] = x := ⟨_, rfl⟩
        rw [hxx] at c2 hx
        clear hxx
        have HX := Lib.hid hx; clear hx
        have HN := Lib.hid (next16_any g q wr T.out.1 HQ.out)
        have HF := Lib.hid (fun w => refStep16_any q w HQ.out)
        have HTL := Lib.hid (stepN_lt HQ.out)
        have HBV := Lib.hid (fun (y : Int) (hy : y < 1) => show belowV q y = 0 ∧ belowS q y = q from ⟨if_pos hy, if_pos hy⟩)
        have HBW := Lib.hid (fun (y : Nat) (hy : 1 ≤ y) => show belowV q y = ((stepN q % y : Nat) : Int) ∧ belowS q y = stepN q from ⟨by unfold belowV; rw [if_neg (by omega), Int.toNat_natCast], by unfold belowS; rw [if_neg (by omega)]⟩)
        have HBL := Lib.hid (fun (y : Int) (hy : y ≤ 9223372036854775807) => below16_any g q y wr T.out.1 HQ.out hy)
        obtain ⟨t, ht⟩ : ∃ t, stepN q = t := ⟨_, rfl⟩
        rw [ht] at HN HF HTL HBW
        clear ht
        have et : ((t : Int) != (t : Int)) = false := by simp
        -- what n is behind the first test
        have hy : ∃ y : Int, (-9223372036854775808 ≤ y ∧ y ≤ 9223372036854775807) ∧ ((0 < (k : Int) % 3 ∧ bits .and .i64 x 15 = y) ∨ (¬ 0 < (k : Int) % 3 ∧ x = y)) := by
          by_cases h3 : 0 < (k : Int) % 3
          · exact ⟨x % 16, by omega, .inl ⟨h3, i64_and15 x⟩⟩
          · exact ⟨x, HX.out, .inr ⟨h3, rfl⟩⟩
        clear HX
        obtain ⟨y, hyb, hy⟩ := hy
        have HYB := Lib.hid hyb; clear hyb
        by_cases h4 : (k : Int) % 4 = 3
        · have h4' : ((k : Int) % 4 == 3) = true := by simpa using h4
          clear h4
          rcases hy with ⟨h3, ha⟩ | ⟨h3, rfl⟩
          all_goals
            go_wp2_with fail
            refine (HF.out wr).mono ?_
            rintro e w' ⟨rfl, rfl⟩
            go_wp2_with fail
            refine HN.out.mono ?_
            rintro e w4 ⟨rfl, hr4, hf4⟩
            have T4 := Lib.hid (show Has w1 w4 g t from ⟨hr4, rng_below T.out.2 hf4 (by omega)⟩)
            clear hr4 hf4
            go_wp2_with fail
            go_roundw
            case rel => exact ⟨k + 1, t, by omega, by go_num, rfl, HTL.out, T4.out⟩
            case measure => simp [intOf]; omega
        · have h4' : ((k : Int) % 4 == 3) = false := by simpa using h4
          clear h4
          by_cases hy1 : y < 1
          · have hy0 : ¬ 0 < y := by omega
            have HBL2 := Lib.hid (HBL.out y HYB.out.2)
            rw [(HBV.out y hy1).1, (HBV.out y hy1).2] at HBL2
            clear hy1 HBL HBV HBW
            rcases hy with ⟨h3, ha⟩ | ⟨h3, rfl⟩
            all_goals
              go_wp2_with fail
              refine HBL2.out.mono ?_
              rintro e w4 ⟨rfl, hr4, hf4⟩
              have T4 := Lib.hid (show Has w1 w4 g q from ⟨hr4, rng_below T.out.2 hf4 (by omega)⟩)
              clear hr4 hf4
              go_wp2_with fail
              go_roundw
              case rel => exact ⟨k + 1, q, by omega, by go_num, rfl, HQ.out, T4.out⟩
              case measure => simp [intOf]; omega
          · obtain ⟨m, hm⟩ : ∃ m : Nat, y = m := ⟨y.toNat, by omega⟩
            have hm1 : 1 ≤ m := by omega
            have HM1 := Lib.hid hm1
            have HBL2 := Lib.hid (HBL.out m (by rw [← hm]; exact HYB.out.2))
            rw [(HBW.out m hm1).1, (HBW.out m hm1).2] at HBL2
            have HWM := Lib.hid (u64_of (n := m) (by omega) (by rw [← hm]; exact HYB.out.2))
            have HMM := Lib.hid (i64_mod (a := t) hm1 (by have := HYB.out.2; omega))
            subst hm
            obtain ⟨v, hv⟩ : ∃ v : Int, ((t % m : Nat) : Int) = v := ⟨_, rfl⟩
            rw [hv] at HBL2 HMM
            have z1 : ¬ IntKind.u64.wrap (m : Int) = 0 := by rw [HWM.out]; omega
            have z2 : wrap64 ((t : Int) % IntKind.u64.wrap (m : Int)) = v := by rw [HWM.out, ← HMM.out, ← hv, Int.natCast_emod]
            have z3 : (v != v) = false := by simp
            have z4 : (0 : Int) < (m : Int) := by omega
            clear hv hy1 HBL HBV HBW hm1
            rcases hy with ⟨h3, ha⟩ | ⟨h3, rfl⟩
            all_goals
              go_wp2_with fail
              refine (HF.out wr).mono ?_
              rintro e w' ⟨rfl, rfl⟩
              go_wp2_with fail
              refine HBL2.out.mono ?_
              rintro e w4 ⟨rfl, hr4, hf4⟩
              have T4 := Lib.hid (show Has w1 w4 g t from ⟨hr4, rng_below T.out.2 hf4 (by omega)⟩)
              clear hr4 hf4
              go_wp2_with fail
              clear z1 z2 z3 z4
              go_roundw
              case rel => exact ⟨k + 1, t, by omega, by go_num, rfl, HTL.out, T4.out⟩
              case measure => simp [intOf]; omega
      · go_wp2_with fail
        refine (HS1.out wr).mono ?_
        rintro e w' ⟨rfl, rfl⟩
        go_wp2_with fail
        refine (HS2.out wr).mono ?_
        rintro e w' ⟨rfl, rfl⟩
        go_wp2_with fail
        go_ret
        exact ⟨rfl, B1.out.trans (T.out.2.mono B1.out.size)⟩

/- The claim. -/

set_option maxRecDepth 100000 in
theorem lifted (os : Os) (started : os.Started) (H : Type) (enc : TypeId × Value → H) :
    ReturnsInHanded {} Try.checked os 5 .any (Rows.rngTellsSpec.pre6 enc Try.prog Try.f5 Rows.rngTellsRow.domain false) (Rows.rngTellsSpec.post enc Try.prog Try.f5 false true false false) := by
  refine returnsInHanded_of_change (C := Try.checked) ownKnobs started (by kernel_rfl) Try.func5
    (ChangeSpec.witness6 (enc := enc) (C := Try.checked) false ⟨#[], #[.int .u64 0, .slice none 0 0, .int .u64 0], []⟩ 8 (by kernel_rfl) (by kernel_rfl) (by kernel_rfl) (by kernel_rfl)) ?_
  intro W base args ds gs before hval hW _ _
  refine law_contract rfl rfl (fun ds h => by match ds, h with | [d1, d2, d3], _ => rfl) (by decide +kernel) hW ?_
  obtain ⟨p, q, hA0, _⟩ := hW
  have hA : DataW.TrodAll enc Try.prog W 0 (fun _ => true) true Try.f5.params.toList args.toList ds p := hA0
  have hval' : ∀ (j : Nat) t v, Try.f5.params[j]? = some t → args[j]? = some v → Value.okWide Try.prog W .any base t v := hval
  rw [Try.params5] at hA hval'
  obtain ⟨v0, vs0, d0, ds0, p0, q0, hargs, rfl, rfl, h0, r0⟩ := trodAll_cons hA
  obtain ⟨v1, vs1, d1, ds1, p1, q1, rfl, rfl, rfl, h1, r1⟩ := trodAll_cons r0
  obtain ⟨v2, vs2, d2, ds2, p2, q2, rfl, rfl, rfl, h2, r2⟩ := trodAll_cons r1
  obtain ⟨rfl, rfl, rfl⟩ := trodAll_nil r2
  obtain rfl : args = #[v0, v1, v2] := by cases args; simp_all
  obtain ⟨z0, rfl, rfl, rfl, w0⟩ := open_int Try.underlying34 (hval' 0 _ v0 rfl rfl) h0
  have b0 : 0 ≤ z0 ∧ z0 ≤ 18446744073709551615 := by simpa [Lit.wf, IntKind.min, IntKind.max, IntKind.signed, IntKind.bits] using w0
  obtain ⟨a0, rfl⟩ : ∃ n : Nat, z0 = n := ⟨z0.toNat, by omega⟩
  obtain ⟨l1, h1, m1, x1⟩ := open_list (hval' 1 _ v1 rfl rfl) h1
  obtain ⟨z2, rfl, rfl, rfl, w2⟩ := open_int Try.underlying34 (hval' 2 _ v2 rfl rfl) h2
  have b2 : 0 ≤ z2 ∧ z2 ≤ 18446744073709551615 := by simpa [Lit.wf, IntKind.min, IntKind.max, IntKind.signed, IntKind.bits] using w2
  obtain ⟨a2, rfl⟩ : ∃ n : Nat, z2 = n := ⟨z2.toNat, by omega⟩
  exact walk a0 a2 v1 l1 W (by omega) (by omega) h1 x1 m1

theorem proved : Rows.RngTellsSaid :=
  OpenClaim.holds_of_wide 5 Try.f5 rfl rfl rfl rfl rfl rfl rfl ⟨rfl, rfl, rfl, rfl, rfl⟩ rfl rfl rfl rfl rfl (by kernel_rfl) Try.func5 (by kernel_rfl)
    (of_decide_eq_true (by kernel_rfl)) (by unfold Func.isWrapper; first | (rw [if_pos (by decide +kernel)]; kernel_rfl) | (rw [if_neg (by decide +kernel)]; exact ⟨rfl, rfl⟩))
    (fun os started H enc _ => lifted os started H enc)

end Go.Proofs.Ytnelaeafjejjgaa.rngTells
