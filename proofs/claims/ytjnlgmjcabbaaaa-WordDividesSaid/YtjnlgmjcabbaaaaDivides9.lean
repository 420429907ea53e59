/- WordDivides returns true for every input and changes nothing: the quotient times the divisor, and a rest below the divisor with the sign of the dividend, is the dividend; there is no quotient by nought. No condition. -/
import Derived.Test.YtjnlgmjcabbaaaaKnown9
import Derived.Test.YtjnlgmjcabbaaaaLaw
namespace Go.Proofs.Ytjnlgmjcabbaaaa.wordDivides
set_option maxRecDepth 100000
open Go.RowKit Go.ChangeShapes Go.WideShapes Go.ChangeAt

theorem rest_eq (a b : Int) (ha : -2147483648 ≤ a ∧ a ≤ 2147483647) : subZ a (mulZ (divZ a b) b) = wrap32 (Int.tmod a b) := by
  have h1 : mulZ (divZ a b) b % 4294967296 = (Int.tdiv a b * b) % 4294967296 := by
    unfold mulZ divZ
    rw [mod_wrap32, Int.mul_emod, mod_wrap32, ← Int.mul_emod]
  have h2 : Int.tmod a b = a - Int.tdiv a b * b := by have := Int.mul_tdiv_add_tmod a b; rw [Int.mul_comm] at this; omega
  unfold subZ
  refine wrap32_of ?_
  rw [h2]; omega
/-- The rest, by cases of the signs: its bounds. -/
theorem rest_small (a b : Int) (ha : -2147483648 ≤ a ∧ a ≤ 2147483647) (hbr : -2147483648 ≤ b ∧ b ≤ 2147483647) (hb : b ≠ 0) :
    ∃ r, subZ a (mulZ (divZ a b) b) = r ∧ -2147483648 < r ∧ r ≤ 2147483647 ∧ (0 ≤ b → r < b ∧ -r < b) ∧ (b < 0 → r < -b ∧ -r < -b) ∧ ((a < 0 ∧ r ≤ 0) ∨ (0 ≤ a ∧ 0 ≤ r)) := by
  have hr := rest_eq a b ha
  have h2 : (Int.tmod a b).natAbs = a.natAbs % b.natAbs := Int.natAbs_tmod a b
  have h3 : a.natAbs % b.natAbs < b.natAbs := Nat.mod_lt _ (by omega)
  have h4 : a.natAbs % b.natAbs ≤ a.natAbs := Nat.mod_le _ _
  have hs : (a < 0 → Int.tmod a b ≤ 0) ∧ (0 ≤ a → 0 ≤ Int.tmod a b) := by
    constructor
    · intro h
      have h5 : Int.tmod a b = -(Int.tmod (-a) b) := by rw [Int.neg_tmod]; omega
      have h6 := Int.tmod_nonneg b (show 0 ≤ -a by omega)
      omega
    · intro h; exact Int.tmod_nonneg b h
  obtain ⟨r, hr0⟩ : ∃ r, Int.tmod a b = r := ⟨_, rfl⟩
  rw [hr0] at hr h2 hs
  have hw : wrap32 r = r := by unfold wrap32; omega
  refine ⟨r, hr.trans hw, by omega, by omega, fun h => by omega, fun h => by omega, ?_⟩
  rcases Int.lt_or_le a 0 with h | h
  · exact .inl ⟨h, hs.1 h⟩
  · exact .inr ⟨h, hs.2 h⟩

set_option maxRecDepth 100000 in
set_option maxHeartbeats 8000000 in
theorem walk (a b : Int) (w : World) (ha : -2147483648 ≤ a ∧ a ≤ 2147483647) (hbr : -2147483648 ≤ b ∧ b ≤ 2147483647) :
    Calls Try.prog 9 #[.int .i32 a, .int .i32 b] w fun e w' => e = .returned (.bool true) ∧ Below w.heap.size w w' := by
  by_cases hb0 : b = 0
  · subst hb0
    have HD := Lib.hid (fun w => div_no a w)
    go_enter Try.func9, Try.ntmps9
    go_wp2_with fail
    refine (known9_any w).mono ?_
    rintro e w' ⟨rfl, rfl⟩
    go_wp2_with fail
    refine (HD.out _).mono ?_
    rintro e w' ⟨rfl, rfl⟩
    go_wp2_with fail
    go_ret
    exact ⟨rfl, .refl _ _⟩
  · obtain ⟨r, hr, r1, r2, r3, r4, r5⟩ := rest_small a b ha hbr hb0
    obtain ⟨q, hq⟩ : ∃ q, divZ a b = q := ⟨_, rfl⟩
    rw [hq] at hr
    obtain ⟨m, hm⟩ : ∃ m, mulZ q b = m := ⟨_, rfl⟩
    rw [hm] at hr
    have hbz : (b == 0) = false := by simpa using hb0
    have HD := Lib.hid (fun w => hq ▸ div_yes a b w ha hbr hbz)
    have HM := Lib.hid (fun w => hm ▸ mul_any q b w)
    have HS := Lib.hid (fun w => hr ▸ sub_any a m w)
    clear hq hr hm
    go_enter Try.func9, Try.ntmps9
    go_wp2_with fail
    refine (known9_any w).mono ?_
    rintro e w' ⟨rfl, rfl⟩
    go_wp2_with fail
    refine (HD.out _).mono ?_
    rintro e w' ⟨rfl, rfl⟩
    go_wp2_with fail
    refine (HM.out _).mono ?_
    rintro e w' ⟨rfl, rfl⟩
    go_wp2_with fail
    refine (HS.out _).mono ?_
    rintro e w' ⟨rfl, rfl⟩
    by_cases hbn : b < 0
    · obtain ⟨s1, s2⟩ := r4 hbn
      rcases r5 with ⟨ha0, hr0⟩ | ⟨ha0, hr0⟩
      · by_cases hrz : r = 0
        · subst hrz
          go_wp2_with fail
          go_ret
          exact ⟨rfl, .refl _ _⟩
        · have rn : r < 0 := by omega
          have rz : (r == 0) = false := by simpa using hrz
          clear hrz hr0
          go_wp2_with fail
          go_ret
          exact ⟨rfl, .refl _ _⟩
      · by_cases hrz : r = 0
        · subst hrz
          go_wp2_with fail
          go_ret
          exact ⟨rfl, .refl _ _⟩
        · have rn : decide (r < 0) = false := decide_eq_false (by omega)
          have an : decide (a < 0) = false := decide_eq_false (by omega)
          have rz : (r == 0) = false := by simpa using hrz
          clear hrz hr0
          go_wp2_with fail
          go_ret
          exact ⟨rfl, .refl _ _⟩
    · obtain ⟨s1, s2⟩ := r3 (by omega)
      rcases r5 with ⟨ha0, hr0⟩ | ⟨ha0, hr0⟩
      · by_cases hrz : r = 0
        · subst hrz
          go_wp2_with fail
          go_ret
          exact ⟨rfl, .refl _ _⟩
        · have rn : r < 0 := by omega
          have rz : (r == 0) = false := by simpa using hrz
          clear hrz hr0
          go_wp2_with fail
          go_ret
          exact ⟨rfl, .refl _ _⟩
      · by_cases hrz : r = 0
        · subst hrz
          go_wp2_with fail
          go_ret
          exact ⟨rfl, .refl _ _⟩
        · have rn : decide (r < 0) = false := decide_eq_false (by omega)
          have an : decide (a < 0) = false := decide_eq_false (by omega)
          have rz : (r == 0) = false := by simpa using hrz
          clear hrz hr0
          go_wp2_with fail
          go_ret
          exact ⟨rfl, .refl _ _⟩

/- The claim. -/

set_option maxRecDepth 100000 in
theorem lifted (os : Os) (started : os.Started) (H : Type) (enc : TypeId × Value → H) :
    ReturnsInHanded {} Try.checked os 9 .any (Rows.wordDividesSpec.pre6 enc Try.prog Try.f9 Rows.wordDividesRow.domain false) (Rows.wordDividesSpec.post enc Try.prog Try.f9 false true false false) := by
  refine returnsInHanded_of_change (C := Try.checked) ownKnobs started (by kernel_rfl) Try.func9
    (ChangeSpec.witness6 (enc := enc) (C := Try.checked) false ⟨#[], #[.int .i32 0, .int .i32 0], []⟩ 8 (by kernel_rfl) (by kernel_rfl) (by kernel_rfl) (by kernel_rfl)) ?_
  intro W base args ds gs before hval hW _ _
  refine law_contract rfl rfl (fun ds h => by match ds, h with | [d1, d2], _ => rfl) (by decide +kernel) hW ?_
  obtain ⟨p, q, hA0, _⟩ := hW
  have hA : DataW.TrodAll enc Try.prog W 0 (fun _ => true) true Try.f9.params.toList args.toList ds p := hA0
  have hval' : ∀ (j : Nat) t v, Try.f9.params[j]? = some t → args[j]? = some v → Value.okWide Try.prog W .any base t v := hval
  rw [Try.params9] at hA hval'
  obtain ⟨v0, vs0, d0, ds0, p0, q0, hargs, rfl, rfl, h0, r0⟩ := trodAll_cons hA
  obtain ⟨v1, vs1, d1, ds1, p1, q1, rfl, rfl, rfl, h1, r1⟩ := trodAll_cons r0
  obtain ⟨rfl, rfl, rfl⟩ := trodAll_nil r1
  obtain rfl : args = #[v0, v1] := by cases args; simp_all
  obtain ⟨a0, rfl, rfl, rfl, w0⟩ := open_int Try.underlying21 (hval' 0 _ v0 rfl rfl) h0
  have b0 : -2147483648 ≤ a0 ∧ a0 ≤ 2147483647 := by simpa [Lit.wf, IntKind.min, IntKind.max, IntKind.signed, IntKind.bits] using w0
  obtain ⟨a1, rfl, rfl, rfl, w1⟩ := open_int Try.underlying21 (hval' 1 _ v1 rfl rfl) h1
  have b1 : -2147483648 ≤ a1 ∧ a1 ≤ 2147483647 := by simpa [Lit.wf, IntKind.min, IntKind.max, IntKind.signed, IntKind.bits] using w1
  exact walk a0 a1 W b0 b1

theorem proved : Rows.WordDividesSaid :=
  OpenClaim.holds_of_wide 9 Try.f9 rfl rfl rfl rfl rfl rfl rfl ⟨rfl, rfl, rfl, rfl, rfl⟩ rfl rfl rfl rfl rfl (by kernel_rfl) Try.func9 (by kernel_rfl)
    (of_decide_eq_true (by kernel_rfl)) (by unfold Func.isWrapper; first | (rw [if_pos (by decide +kernel)]; kernel_rfl) | (rw [if_neg (by decide +kernel)]; exact ⟨rfl, rfl⟩))
    (fun os started H enc _ => lifted os started H enc)

end Go.Proofs.Ytjnlgmjcabbaaaa.wordDivides
