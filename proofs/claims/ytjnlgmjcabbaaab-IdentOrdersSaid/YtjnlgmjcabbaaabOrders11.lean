/- IdentOrders returns true for every input and changes nothing: identities are in order by their labels, then by their numbers; different ones differ; Valid tells by the label. No condition. -/
import Derived.Test.YtjnlgmjcabbaaabIdent
import Derived.Test.YtjnlgmjcabbaaabLaw
namespace Go.Proofs.Ytjnlgmjcabbaaab.identOrders
set_option maxRecDepth 100000
open Go.RowKit Go.ChangeShapes Go.WideShapes Go.ChangeAt

theorem ofZ_val {p n : Nat} (hp : p < 16) (hn : n < 65536) : ofZ p n = ((p * 65536 + n : Nat) : Int) ∧ ofB p n = true := by
  have h := ofB_yes (l := (p : Int)) (n := (n : Int)) (by omega)
  refine ⟨?_, h⟩
  unfold ofZ; rw [h, if_pos rfl]; omega
theorem valid_val {p n : Nat} (hp : p < 16) (hn : n < 65536) : validB ((p * 65536 + n : Nat) : Int) ((p : Int) + 1) = true ∧ validB ((p * 65536 + n : Nat) : Int) (p : Int) = false := by
  have h : labelZ ((p * 65536 + n : Nat) : Int) = (p : Int) := by rw [labelZ_pos (by omega)]; omega
  unfold validB
  rw [h, decide_eq_true (by omega), Bool.true_and, Bool.true_and]
  exact ⟨decide_eq_true (by omega), decide_eq_false (by omega)⟩

set_option maxRecDepth 100000 in
set_option maxHeartbeats 8000000 in
theorem walk (a b n m : Nat) (w : World) (ha : a ≤ 255) (hb : b ≤ 255) (hn : n ≤ 65535) (hm : m ≤ 65535) :
    Calls Try.prog 4 #[.int .u8 a, .int .u8 b, .int .u16 n, .int .u16 m] w fun e w' => e = .returned (.bool true) ∧ Below w.heap.size w w' := by
  have hp : a % 16 < 16 := Nat.mod_lt _ (by decide)
  have hq : b % 16 < 16 := Nat.mod_lt _ (by decide)
  have hxv := ofZ_val hp (show n < 65536 by omega)
  have hyv := ofZ_val hq (show m < 65536 by omega)
  have hv := valid_val hp (show n < 65536 by omega)
  obtain ⟨x, hx⟩ : ∃ x, a % 16 * 65536 + n = x := ⟨_, rfl⟩
  obtain ⟨y, hy⟩ : ∃ y, b % 16 * 65536 + m = y := ⟨_, rfl⟩
  rw [hx] at hxv hv
  rw [hy] at hyv
  obtain ⟨z0, hz0⟩ : ∃ z, z = ((a % 16 : Nat) : Int) + 1 := ⟨_, rfl⟩
  have H1 := Lib.hid (fun w => hxv.2 ▸ hxv.1 ▸ of_any ((a % 16 : Nat) : Int) n w)
  have H2 := Lib.hid (fun w => hyv.2 ▸ hyv.1 ▸ of_any ((b % 16 : Nat) : Int) m w)
  have H3 := Lib.hid (fun w => hv.1 ▸ valid_any (x : Int) (((a % 16 : Nat) : Int) + 1) w (by omega))
  have H4 := Lib.hid (fun w => hv.2 ▸ valid_any (x : Int) ((a % 16 : Nat) : Int) w (by omega))
  have hcmp : (a % 16 < b % 16 ∧ x < y) ∨ (b % 16 < a % 16 ∧ y < x) ∨ (a % 16 = b % 16 ∧ n < m ∧ x < y) ∨ (a % 16 = b % 16 ∧ n = m ∧ x = y) ∨ (a % 16 = b % 16 ∧ m < n ∧ y < x) := by omega
  clear hxv hyv hv hx hy z0 hz0
  have hpa : ∃ p : Nat, a % 16 = p ∧ ((a : Int) % 16 = (p : Int)) := ⟨_, rfl, by omega⟩
  have hqb : ∃ q : Nat, b % 16 = q ∧ ((b : Int) % 16 = (q : Int)) := ⟨_, rfl, by omega⟩
  obtain ⟨p, ep, ep'⟩ := hpa
  obtain ⟨q, eq, eq'⟩ := hqb
  rw [ep] at hp hcmp H1 H3 H4
  rw [eq] at hq hcmp H2
  rcases hcmp with ⟨h1, h2⟩ | ⟨h1, h2⟩ | ⟨h1, h2, h3⟩ | ⟨h1, h2, h3⟩ | ⟨h1, h2, h3⟩
  · have f1 : (p : Int) < (q : Int) := by omega
    have f2 : decide ((x : Int) < (y : Int)) = true := decide_eq_true (by omega)
    have f3 : ((x : Int) == (y : Int)) = false := by simp; omega
    have f4 : ((p : Int) == (q : Int)) = false := by simp; omega
    go_enter Try.func4, Try.ntmps4
    go_wp2_with fail
    refine (known11_any w).mono ?_
    rintro e w' ⟨rfl, rfl⟩
    go_wp2_with fail
    refine (H1.out _).mono ?_
    rintro e w' ⟨rfl, rfl⟩
    go_wp2_with fail
    refine (H2.out _).mono ?_
    rintro e w' ⟨rfl, rfl⟩
    go_wp2_with fail
    refine (H3.out _).mono ?_
    rintro e w' ⟨rfl, rfl⟩
    go_wp2_with fail
    refine (H4.out _).mono ?_
    rintro e w' ⟨rfl, rfl⟩
    go_wp2_with fail
    go_ret
    exact ⟨rfl, .refl _ _⟩
  · have f1 : decide ((p : Int) < (q : Int)) = false := decide_eq_false (by omega)
    have f2 : decide ((x : Int) < (y : Int)) = false := decide_eq_false (by omega)
    have f3 : ((x : Int) == (y : Int)) = false := by simp; omega
    have f4 : ((p : Int) == (q : Int)) = false := by simp; omega
    go_enter Try.func4, Try.ntmps4
    go_wp2_with fail
    refine (known11_any w).mono ?_
    rintro e w' ⟨rfl, rfl⟩
    go_wp2_with fail
    refine (H1.out _).mono ?_
    rintro e w' ⟨rfl, rfl⟩
    go_wp2_with fail
    refine (H2.out _).mono ?_
    rintro e w' ⟨rfl, rfl⟩
    go_wp2_with fail
    refine (H3.out _).mono ?_
    rintro e w' ⟨rfl, rfl⟩
    go_wp2_with fail
    refine (H4.out _).mono ?_
    rintro e w' ⟨rfl, rfl⟩
    go_wp2_with fail
    go_ret
    exact ⟨rfl, .refl _ _⟩
  · subst h1
    have f2 : decide ((x : Int) < (y : Int)) = true := decide_eq_true (by omega)
    have f3 : ((x : Int) == (y : Int)) = false := by simp; omega
    have f5 : ((n : Int) == (m : Int)) = false := by simp; omega
    have f6 : decide ((n : Int) < (m : Int)) = true := decide_eq_true (by omega)
    go_enter Try.func4, Try.ntmps4
    go_wp2_with fail
    refine (known11_any w).mono ?_
    rintro e w' ⟨rfl, rfl⟩
    go_wp2_with fail
    refine (H1.out _).mono ?_
    rintro e w' ⟨rfl, rfl⟩
    go_wp2_with fail
    refine (H2.out _).mono ?_
    rintro e w' ⟨rfl, rfl⟩
    go_wp2_with fail
    refine (H3.out _).mono ?_
    rintro e w' ⟨rfl, rfl⟩
    go_wp2_with fail
    refine (H4.out _).mono ?_
    rintro e w' ⟨rfl, rfl⟩
    go_wp2_with fail
    go_ret
    exact ⟨rfl, .refl _ _⟩
  · subst h1
    subst h2
    subst h3
    go_enter Try.func4, Try.ntmps4
    go_wp2_with fail
    refine (known11_any w).mono ?_
    rintro e w' ⟨rfl, rfl⟩
    go_wp2_with fail
    refine (H1.out _).mono ?_
    rintro e w' ⟨rfl, rfl⟩
    go_wp2_with fail
    refine (H2.out _).mono ?_
    rintro e w' ⟨rfl, rfl⟩
    go_wp2_with fail
    refine (H3.out _).mono ?_
    rintro e w' ⟨rfl, rfl⟩
    go_wp2_with fail
    refine (H4.out _).mono ?_
    rintro e w' ⟨rfl, rfl⟩
    go_wp2_with fail
    go_ret
    exact ⟨rfl, .refl _ _⟩
  · subst h1
    have f2 : decide ((x : Int) < (y : Int)) = false := decide_eq_false (by omega)
    have f3 : ((x : Int) == (y : Int)) = false := by simp; omega
    have f5 : ((n : Int) == (m : Int)) = false := by simp; omega
    have f6 : decide ((n : Int) < (m : Int)) = false := decide_eq_false (by omega)
    go_enter Try.func4, Try.ntmps4
    go_wp2_with fail
    refine (known11_any w).mono ?_
    rintro e w' ⟨rfl, rfl⟩
    go_wp2_with fail
    refine (H1.out _).mono ?_
    rintro e w' ⟨rfl, rfl⟩
    go_wp2_with fail
    refine (H2.out _).mono ?_
    rintro e w' ⟨rfl, rfl⟩
    go_wp2_with fail
    refine (H3.out _).mono ?_
    rintro e w' ⟨rfl, rfl⟩
    go_wp2_with fail
    refine (H4.out _).mono ?_
    rintro e w' ⟨rfl, rfl⟩
    go_wp2_with fail
    go_ret
    exact ⟨rfl, .refl _ _⟩

/- The claim. -/

set_option maxRecDepth 100000 in
theorem lifted (os : Os) (started : os.Started) (H : Type) (enc : TypeId × Value → H) :
    ReturnsInHanded {} Try.checked os 4 .any (Rows.identOrdersSpec.pre6 enc Try.prog Try.f4 Rows.identOrdersRow.domain false) (Rows.identOrdersSpec.post enc Try.prog Try.f4 false true false false) := by
  refine returnsInHanded_of_change (C := Try.checked) ownKnobs started (by kernel_rfl) Try.func4
    (ChangeSpec.witness6 (enc := enc) (C := Try.checked) false ⟨#[], #[.int .u8 0, .int .u8 0, .int .u16 0, .int .u16 0], []⟩ 8 (by kernel_rfl) (by kernel_rfl) (by kernel_rfl) (by kernel_rfl)) ?_
  intro W base args ds gs before hval hW _ _
  refine law_contract rfl rfl (fun ds h => by match ds, h with | [d1, d2, d3, d4], _ => rfl) (by decide +kernel) hW ?_
  obtain ⟨p, q, hA0, _⟩ := hW
  have hA : DataW.TrodAll enc Try.prog W 0 (fun _ => true) true Try.f4.params.toList args.toList ds p := hA0
  have hval' : ∀ (j : Nat) t v, Try.f4.params[j]? = some t → args[j]? = some v → Value.okWide Try.prog W .any base t v := hval
  rw [Try.params4] at hA hval'
  obtain ⟨v0, vs0, d0, ds0, p0, q0, hargs, rfl, rfl, h0, r0⟩ := trodAll_cons hA
  obtain ⟨v1, vs1, d1, ds1, p1, q1, rfl, rfl, rfl, h1, r1⟩ := trodAll_cons r0
  obtain ⟨v2, vs2, d2, ds2, p2, q2, rfl, rfl, rfl, h2, r2⟩ := trodAll_cons r1
  obtain ⟨v3, vs3, d3, ds3, p3, q3, rfl, rfl, rfl, h3, r3⟩ := trodAll_cons r2
  obtain ⟨rfl, rfl, rfl⟩ := trodAll_nil r3
  obtain rfl : args = #[v0, v1, v2, v3] := by cases args; simp_all
  obtain ⟨z0, rfl, rfl, rfl, w0⟩ := open_int Try.underlying5 (hval' 0 _ v0 rfl rfl) h0
  have b0 : 0 ≤ z0 ∧ z0 ≤ 255 := by simpa [Lit.wf, IntKind.min, IntKind.max, IntKind.signed, IntKind.bits] using w0
  obtain ⟨a0, rfl⟩ : ∃ n : Nat, z0 = n := ⟨z0.toNat, by omega⟩
  obtain ⟨z1, rfl, rfl, rfl, w1⟩ := open_int Try.underlying5 (hval' 1 _ v1 rfl rfl) h1
  have b1 : 0 ≤ z1 ∧ z1 ≤ 255 := by simpa [Lit.wf, IntKind.min, IntKind.max, IntKind.signed, IntKind.bits] using w1
  obtain ⟨a1, rfl⟩ : ∃ n : Nat, z1 = n := ⟨z1.toNat, by omega⟩
  obtain ⟨z2, rfl, rfl, rfl, w2⟩ := open_int Try.underlying31 (hval' 2 _ v2 rfl rfl) h2
  have b2 : 0 ≤ z2 ∧ z2 ≤ 65535 := by simpa [Lit.wf, IntKind.min, IntKind.max, IntKind.signed, IntKind.bits] using w2
  obtain ⟨a2, rfl⟩ : ∃ n : Nat, z2 = n := ⟨z2.toNat, by omega⟩
  obtain ⟨z3, rfl, rfl, rfl, w3⟩ := open_int Try.underlying31 (hval' 3 _ v3 rfl rfl) h3
  have b3 : 0 ≤ z3 ∧ z3 ≤ 65535 := by simpa [Lit.wf, IntKind.min, IntKind.max, IntKind.signed, IntKind.bits] using w3
  obtain ⟨a3, rfl⟩ : ∃ n : Nat, z3 = n := ⟨z3.toNat, by omega⟩
  exact walk a0 a1 a2 a3 W (by omega) (by omega) (by omega) (by omega)

theorem proved : Rows.IdentOrdersSaid :=
  OpenClaim.holds_of_wide 4 Try.f4 rfl rfl rfl rfl rfl rfl rfl ⟨rfl, rfl, rfl, rfl, rfl⟩ rfl rfl rfl rfl rfl (by kernel_rfl) Try.func4 (by kernel_rfl)
    (of_decide_eq_true (by kernel_rfl)) (by unfold Func.isWrapper; first | (rw [if_pos (by decide +kernel)]; kernel_rfl) | (rw [if_neg (by decide +kernel)]; exact ⟨rfl, rfl⟩))
    (fun os started H enc _ => lifted os started H enc)

end Go.Proofs.Ytjnlgmjcabbaaab.identOrders
