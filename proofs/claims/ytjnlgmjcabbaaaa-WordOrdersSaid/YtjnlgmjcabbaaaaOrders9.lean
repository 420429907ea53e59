/- WordOrders returns true for every input and changes nothing: exactly one of less, greater, equal; sums, differences and products obey the laws of a ring. No condition. -/
import Derived.Test.YtjnlgmjcabbaaaaKnown9
import Derived.Test.YtjnlgmjcabbaaaaLaw
namespace Go.Proofs.Ytjnlgmjcabbaaaa.wordOrders
set_option maxRecDepth 100000
open Go.RowKit Go.ChangeShapes Go.WideShapes Go.ChangeAt

theorem tri (a b : Int) : wrap32 (wrap32 (truthZ (decide (a < b)) + truthZ (decide (b < a))) + truthZ (a == b)) = 1 := by
  rcases (by omega : a < b ∨ a = b ∨ b < a) with h | h | h
  · rw [decide_eq_true h, decide_eq_false (by omega), show (a == b) = false from by simp; omega]; decide +kernel
  · subst h; rw [decide_eq_false (by omega), show (a == a) = true from by simp]; decide +kernel
  · rw [decide_eq_true h, decide_eq_false (by omega), show (a == b) = false from by simp; omega]; decide +kernel
theorem add_comm9 (a b : Int) : addZ a b = addZ b a := by unfold addZ; rw [Int.add_comm]
theorem add_assoc9 (a b c : Int) : addZ (addZ a b) c = addZ a (addZ b c) := by unfold addZ wrap32; omega
theorem sub_add9 (a b : Int) (ha : -2147483648 ≤ a ∧ a ≤ 2147483647) : subZ (addZ a b) b = a := by unfold addZ subZ wrap32; omega
theorem wrap32_of {x y : Int} (h : x % 4294967296 = y % 4294967296) : wrap32 x = wrap32 y := by rw [← wrap32_mod x, h, wrap32_mod]
theorem mod_wrap32 (x : Int) : wrap32 x % 4294967296 = x % 4294967296 := by unfold wrap32; omega
theorem mul_add9 (a b c : Int) : mulZ a (addZ b c) = addZ (mulZ a b) (mulZ a c) := by
  unfold mulZ addZ
  refine wrap32_of ?_
  rw [Int.mul_emod, mod_wrap32, ← Int.mul_emod, Int.add_emod, mod_wrap32, mod_wrap32, ← Int.add_emod, Int.mul_add]

theorem less_self (a : Int) (w : World) : Calls Try.prog 34 #[.int .i32 a, .int .i32 a] w fun e w' => e = .returned (.int .i32 0) ∧ w' = w := by
  have h := less_any a a w
  rw [decide_eq_false (Int.lt_irrefl a)] at h
  exact h
theorem eq_self (a : Int) (w : World) : Calls Try.prog 36 #[.int .i32 a, .int .i32 a] w fun e w' => e = .returned (.int .i32 1) ∧ w' = w := by
  have h := eq_any a a w
  rw [beq_self_eq_true] at h
  exact h

set_option maxRecDepth 100000 in
set_option maxHeartbeats 8000000 in
theorem walk (a b c : Int) (w : World) (ha : -2147483648 ≤ a ∧ a ≤ 2147483647) :
    Calls Try.prog 10 #[.int .i32 a, .int .i32 b, .int .i32 c] w fun e w' => e = .returned (.bool true) ∧ Below w.heap.size w w' := by
  obtain ⟨z1, h1⟩ : ∃ z, truthZ (decide (a < b)) = z := ⟨_, rfl⟩
  obtain ⟨z2, h2⟩ : ∃ z, truthZ (decide (b < a)) = z := ⟨_, rfl⟩
  obtain ⟨z3, h3⟩ : ∃ z, truthZ (a == b) = z := ⟨_, rfl⟩
  have ht := tri a b
  rw [h1, h2, h3] at ht
  have hu : wrap32 (wrap32 (z1 + z2) + z3) = 1 := ht
  have HL1 := Lib.hid (fun w => h1 ▸ less_any a b w)
  have HL2 := Lib.hid (fun w => h2 ▸ less_any b a w)
  have HE := Lib.hid (fun w => h3 ▸ eq_any a b w)
  have HL0 := Lib.hid (fun w => less_self a w)
  have HE0 := Lib.hid (fun w => eq_self a w)
  clear h1 h2 h3 ht
  obtain ⟨s, hs⟩ : ∃ s, addZ a b = s := ⟨_, rfl⟩
  obtain ⟨t, ht⟩ : ∃ t, addZ b c = t := ⟨_, rfl⟩
  obtain ⟨u, hu'⟩ : ∃ u, addZ s c = u := ⟨_, rfl⟩
  obtain ⟨m, hm⟩ : ∃ m, mulZ a b = m := ⟨_, rfl⟩
  obtain ⟨n, hn⟩ : ∃ n, mulZ a c = n := ⟨_, rfl⟩
  obtain ⟨q, hq⟩ : ∃ q, addZ m n = q := ⟨_, rfl⟩
  have H1 := Lib.hid (fun w => hs ▸ add_any a b w)
  have H2 := Lib.hid (fun w => (show addZ b a = s by rw [← hs, add_comm9]) ▸ add_any b a w)
  have H3 := Lib.hid (fun w => hu' ▸ add_any s c w)
  have H4 := Lib.hid (fun w => ht ▸ add_any b c w)
  have H5 := Lib.hid (fun w => (show addZ a t = u by rw [← hu', ← hs, ← ht, add_assoc9]) ▸ add_any a t w)
  have H6 := Lib.hid (fun w => (show subZ s b = a by rw [← hs, sub_add9 a b ha]) ▸ sub_any s b w)
  have H7 := Lib.hid (fun w => (show mulZ a t = q by rw [← ht, ← hq, ← hm, ← hn, mul_add9]) ▸ mul_any a t w)
  have H8 := Lib.hid (fun w => hm ▸ mul_any a b w)
  have H9 := Lib.hid (fun w => hn ▸ mul_any a c w)
  have H10 := Lib.hid (fun w => hq ▸ add_any m n w)
  clear hs ht hu' hm hn hq
  go_enter Try.func10, Try.ntmps10
  go_wp2_with fail
  refine (known9_any w).mono ?_
  rintro e w' ⟨rfl, rfl⟩
  go_wp2_with fail
  refine (HL1.out _).mono ?_
  rintro e w' ⟨rfl, rfl⟩
  go_wp2_with fail
  refine (HL2.out _).mono ?_
  rintro e w' ⟨rfl, rfl⟩
  go_wp2_with fail
  refine (HE.out _).mono ?_
  rintro e w' ⟨rfl, rfl⟩
  go_wp2_with fail
  refine (HL0.out _).mono ?_
  rintro e w' ⟨rfl, rfl⟩
  go_wp2_with fail
  refine (HE0.out _).mono ?_
  rintro e w' ⟨rfl, rfl⟩
  go_wp2_with fail
  refine (H1.out _).mono ?_
  rintro e w' ⟨rfl, rfl⟩
  go_wp2_with fail
  refine (H2.out _).mono ?_
  rintro e w' ⟨rfl, rfl⟩
  go_wp2_with fail
  refine (H1.out _).mono ?_
  rintro e w' ⟨rfl, rfl⟩
  go_wp2_with fail
  refine (H3.out _).mono ?_
  rintro e w' ⟨rfl, rfl⟩
  go_wp2_with fail
  refine (H4.out _).mono ?_
  rintro e w' ⟨rfl, rfl⟩
  go_wp2_with fail
  refine (H5.out _).mono ?_
  rintro e w' ⟨rfl, rfl⟩
  go_wp2_with fail
  refine (H1.out _).mono ?_
  rintro e w' ⟨rfl, rfl⟩
  go_wp2_with fail
  refine (H6.out _).mono ?_
  rintro e w' ⟨rfl, rfl⟩
  go_wp2_with fail
  refine (H4.out _).mono ?_
  rintro e w' ⟨rfl, rfl⟩
  go_wp2_with fail
  refine (H7.out _).mono ?_
  rintro e w' ⟨rfl, rfl⟩
  go_wp2_with fail
  refine (H8.out _).mono ?_
  rintro e w' ⟨rfl, rfl⟩
  go_wp2_with fail
  refine (H9.out _).mono ?_
  rintro e w' ⟨rfl, rfl⟩
  go_wp2_with fail
  refine (H10.out _).mono ?_
  rintro e w' ⟨rfl, rfl⟩
  go_wp2_with fail
  go_ret
  exact ⟨rfl, .refl _ _⟩

/- The claim. -/

set_option maxRecDepth 100000 in
theorem lifted (os : Os) (started : os.Started) (H : Type) (enc : TypeId × Value → H) :
    ReturnsInHanded {} Try.checked os 10 .any (Rows.wordOrdersSpec.pre6 enc Try.prog Try.f10 Rows.wordOrdersRow.domain false) (Rows.wordOrdersSpec.post enc Try.prog Try.f10 false true false false) := by
  refine returnsInHanded_of_change (C := Try.checked) ownKnobs started (by kernel_rfl) Try.func10
    (ChangeSpec.witness6 (enc := enc) (C := Try.checked) false ⟨#[], #[.int .i32 0, .int .i32 0, .int .i32 0], []⟩ 8 (by kernel_rfl) (by kernel_rfl) (by kernel_rfl) (by kernel_rfl)) ?_
  intro W base args ds gs before hval hW _ _
  refine law_contract rfl rfl (fun ds h => by match ds, h with | [d1, d2, d3], _ => rfl) (by decide +kernel) hW ?_
  obtain ⟨p, q, hA0, _⟩ := hW
  have hA : DataW.TrodAll enc Try.prog W 0 (fun _ => true) true Try.f10.params.toList args.toList ds p := hA0
  have hval' : ∀ (j : Nat) t v, Try.f10.params[j]? = some t → args[j]? = some v → Value.okWide Try.prog W .any base t v := hval
  rw [Try.params10] at hA hval'
  obtain ⟨v0, vs0, d0, ds0, p0, q0, hargs, rfl, rfl, h0, r0⟩ := trodAll_cons hA
  obtain ⟨v1, vs1, d1, ds1, p1, q1, rfl, rfl, rfl, h1, r1⟩ := trodAll_cons r0
  obtain ⟨v2, vs2, d2, ds2, p2, q2, rfl, rfl, rfl, h2, r2⟩ := trodAll_cons r1
  obtain ⟨rfl, rfl, rfl⟩ := trodAll_nil r2
  obtain rfl : args = #[v0, v1, v2] := by cases args; simp_all
  obtain ⟨a0, rfl, rfl, rfl, w0⟩ := open_int Try.underlying21 (hval' 0 _ v0 rfl rfl) h0
  have b0 : -2147483648 ≤ a0 ∧ a0 ≤ 2147483647 := by simpa [Lit.wf, IntKind.min, IntKind.max, IntKind.signed, IntKind.bits] using w0
  obtain ⟨a1, rfl, rfl, rfl, w1⟩ := open_int Try.underlying21 (hval' 1 _ v1 rfl rfl) h1
  have b1 : -2147483648 ≤ a1 ∧ a1 ≤ 2147483647 := by simpa [Lit.wf, IntKind.min, IntKind.max, IntKind.signed, IntKind.bits] using w1
  obtain ⟨a2, rfl, rfl, rfl, w2⟩ := open_int Try.underlying21 (hval' 2 _ v2 rfl rfl) h2
  have b2 : -2147483648 ≤ a2 ∧ a2 ≤ 2147483647 := by simpa [Lit.wf, IntKind.min, IntKind.max, IntKind.signed, IntKind.bits] using w2
  exact walk a0 a1 a2 W b0

theorem proved : Rows.WordOrdersSaid :=
  OpenClaim.holds_of_wide 10 Try.f10 rfl rfl rfl rfl rfl rfl rfl ⟨rfl, rfl, rfl, rfl, rfl⟩ rfl rfl rfl rfl rfl (by kernel_rfl) Try.func10 (by kernel_rfl)
    (of_decide_eq_true (by kernel_rfl)) (by unfold Func.isWrapper; first | (rw [if_pos (by decide +kernel)]; kernel_rfl) | (rw [if_neg (by decide +kernel)]; exact ⟨rfl, rfl⟩))
    (fun os started H enc _ => lifted os started H enc)

end Go.Proofs.Ytjnlgmjcabbaaaa.wordOrders
