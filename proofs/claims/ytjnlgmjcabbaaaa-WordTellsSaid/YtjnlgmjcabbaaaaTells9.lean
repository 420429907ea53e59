/- WordTells returns true for every input and changes nothing: sums, differences, products, quotients and truths are the documented ones. No condition. -/
import Derived.Test.YtjnlgmjcabbaaaaKnown9
import Derived.Test.YtjnlgmjcabbaaaaLaw
import Derived.Test.YtjnlgmjcabbaaaaGrid
import Derived.Deep.QuietTactic
import Derived.BigQuiet
namespace Go.Proofs.Ytjnlgmjcabbaaaa.wordTells
set_option maxRecDepth 100000
open Go.RowKit Go.ChangeShapes Go.WideShapes Go.ChangeAt

def edges (a b : Int) : List Int := [a, b, 0, 1, -1, 2147483647, -2147483648, 46341, 7]
theorem edge_at {a b : Int} (ha : -2147483648 ≤ a ∧ a ≤ 2147483647) (hb : -2147483648 ≤ b ∧ b ≤ 2147483647) {i : Nat} (hi : i < 9) :
    ∃ x, (edges a b)[i]? = some x ∧ -2147483648 ≤ x ∧ x ≤ 2147483647 := by
  unfold edges
  rcases (by omega : i = 0 ∨ i = 1 ∨ i = 2 ∨ i = 3 ∨ i = 4 ∨ i = 5 ∨ i = 6 ∨ i = 7 ∨ i = 8) with rfl | rfl | rfl | rfl | rfl | rfl | rfl | rfl | rfl
  all_goals exact ⟨_, rfl, by omega, by omega⟩
theorem mul_in {x y : Int} (hx : -2147483648 ≤ x ∧ x ≤ 2147483647) (hy : -2147483648 ≤ y ∧ y ≤ 2147483647) : -4611686018427387904 ≤ x * y ∧ x * y ≤ 4611686018427387904 := by
  have h : (x * y).natAbs ≤ 2147483648 * 2147483648 := by rw [Int.natAbs_mul]; exact Nat.mul_le_mul (by omega) (by omega)
  omega

set_option maxRecDepth 100000 in
set_option maxHeartbeats 8000000 in
theorem walk (a b : Int) (k j : Nat) (w : World) (ha : -2147483648 ≤ a ∧ a ≤ 2147483647) (hb : -2147483648 ≤ b ∧ b ≤ 2147483647) (hk : k ≤ 255) (hj : j ≤ 255) :
    Calls Try.prog 8 #[.int .i32 a, .int .i32 b, .int .u8 k, .int .u8 j] w fun e w' => e = .returned (.bool true) ∧ Below w.heap.size w w' := by
  obtain ⟨x, hx, x1, x2⟩ := edge_at ha hb (Nat.mod_lt k (by decide : 0 < 9))
  obtain ⟨y, hy, y1, y2⟩ := edge_at ha hb (Nat.mod_lt j (by decide : 0 < 9))
  have HX := Lib.hid hx; have HY := Lib.hid hy
  clear hx hy
  have xr : -2147483648 ≤ x ∧ x ≤ 2147483647 := ⟨x1, x2⟩
  have yr : -2147483648 ≤ y ∧ y ≤ 2147483647 := ⟨y1, y2⟩
  obtain ⟨s, hs⟩ : ∃ z, addZ x y = z := ⟨_, rfl⟩
  obtain ⟨d, hd⟩ : ∃ z, subZ x y = z := ⟨_, rfl⟩
  obtain ⟨m, hm⟩ : ∃ z, mulZ x y = z := ⟨_, rfl⟩
  obtain ⟨q, hq⟩ : ∃ z, divA x y = z := ⟨_, rfl⟩
  obtain ⟨zb, hzb⟩ : ∃ z, (y != 0) = z := ⟨_, rfl⟩
  obtain ⟨p, hp⟩ : ∃ z, x * y = z := ⟨_, rfl⟩
  have hpr := mul_in xr yr
  rw [hp] at hpr
  have p1 : IntKind.i64.wrap (x * y) = p := by rw [hp]; exact IntWalk.i64_in _ (by omega)
  have HD := Lib.hid (fun w => hzb ▸ hq ▸ div_any x y w xr yr)
  have HR := Lib.hid (fun w => hzb ▸ hq ▸ refDiv_any x y w xr yr)
  have HA := Lib.hid (fun w => hs ▸ add_any x y w)
  have HS := Lib.hid (fun w => hd ▸ sub_any x y w)
  have HM := Lib.hid (fun w => hm ▸ mul_any x y w)
  have f1 : wrap32 ((x + y) % 4294967296) = s := by rw [← hs, wrap32_mod]; rfl
  have f2 : wrap32 ((x - y) % 4294967296) = d := by rw [← hd, wrap32_mod]; rfl
  have f3 : wrap32 (IntKind.u64.wrap p % 4294967296) = m := by
    rw [IntKind.wrap_u64, Int.emod_emod_of_dvd _ (by decide), wrap32_mod, ← hp, ← hm]; rfl
  have F1 := Lib.hid f1; have F2 := Lib.hid f2; have F3 := Lib.hid f3; have P1 := Lib.hid p1
  obtain ⟨l1, hl1⟩ : ∃ z, truthZ (decide (x < y)) = z := ⟨_, rfl⟩
  obtain ⟨l2, hl2⟩ : ∃ z, truthZ (x == y) = z := ⟨_, rfl⟩
  have HL := Lib.hid (fun w => hl1 ▸ less_any x y w)
  have HL' := Lib.hid (fun w => hl1 ▸ refTruth_any (decide (x < y)) w)
  have HE := Lib.hid (fun w => hl2 ▸ eq_any x y w)
  have HE' := Lib.hid (fun w => hl2 ▸ refTruth_any (x == y) w)
  clear hs hd hm hq hzb hp hpr p1 f1 f2 f3 hl1 hl2
  have xr64 : IntKind.i64.wrap x = x := IntWalk.i64_in _ (by omega)
  have yr64 : IntKind.i64.wrap y = y := IntWalk.i64_in _ (by omega)
  clear xr yr
  go_enter Try.func8, Try.ntmps8
  go_wp2_with fail
  refine (known9_any w).mono ?_
  rintro e w' ⟨rfl, rfl⟩
  obtain ⟨w2, hw2⟩ : ∃ w2, w2 = w'.alloc (.cells #[.int .i32 a, .int .i32 b, .int .i32 0, .int .i32 1, .int .i32 (-1), .int .i32 2147483647, .int .i32 (-2147483648), .int .i32 46341, .int .i32 7] 21) := ⟨_, rfl⟩
  have hnew : w2.heap[w'.heap.size]? = some (.cells #[.int .i32 a, .int .i32 b, .int .i32 0, .int .i32 1, .int .i32 (-1), .int .i32 2147483647, .int .i32 (-2147483648), .int .i32 46341, .int .i32 7] 21 (0, 0)) := by rw [hw2]; exact heap_alloc_new w' _
  have hcell : ∀ i z, (edges a b)[i]? = some z → w2.cell? ⟨w'.heap.size, i, none⟩ = some (.int .i32 z) := by
    intro i z h
    rw [cell_blk hnew]
    have h2 : ((edges a b).map (Value.int .i32))[i]? = some (.int .i32 z) := by rw [List.getElem?_map, h]; rfl
    show (((edges a b).map (Value.int .i32)).toArray)[i]? = _
    rw [List.getElem?_toArray]; exact h2
  have cx := hcell _ _ HX.out
  have cy := hcell _ _ HY.out
  have B1 := Lib.hid (show Below w'.heap.size w' w2 by rw [hw2]; exact below_alloc _ _)
  clear hnew hcell
  have i1 : k % 9 < 9 := Nat.mod_lt _ (by decide)
  have i2 : j % 9 < 9 := Nat.mod_lt _ (by decide)
  go_wp2_with fail
  rw [← hw2]
  clear hw2
  go_quiet (fail)
  clear cx cy i1 i2
  go_wp2_with fail
  refine (HD.out _).mono ?_
  rintro e w' ⟨rfl, rfl⟩
  go_wp2_with fail
  refine (HR.out _).mono ?_
  rintro e w' ⟨rfl, rfl⟩
  have p1 := P1.out; have f1 := F1.out; have f2 := F2.out; have f3 := F3.out
  go_wp2_with fail
  refine (HA.out _).mono ?_
  rintro e w' ⟨rfl, rfl⟩
  go_wp2_with fail
  refine (HS.out _).mono ?_
  rintro e w' ⟨rfl, rfl⟩
  go_wp2_with fail
  refine (HM.out _).mono ?_
  rintro e w' ⟨rfl, rfl⟩
  have e1 : (zb == zb) = true := beq_self_eq_true _
  go_wp2_with fail
  refine (HL.out _).mono ?_
  rintro e w' ⟨rfl, rfl⟩
  go_wp2_with fail
  refine (HL'.out _).mono ?_
  rintro e w' ⟨rfl, rfl⟩
  go_wp2_with fail
  refine (HE.out _).mono ?_
  rintro e w' ⟨rfl, rfl⟩
  go_wp2_with fail
  refine (HE'.out _).mono ?_
  rintro e w' ⟨rfl, rfl⟩
  go_wp2_with fail
  go_ret
  exact ⟨rfl, below_drewN B1.out _⟩

/- The claim. -/

set_option maxRecDepth 100000 in
theorem lifted (os : Os) (started : os.Started) (H : Type) (enc : TypeId × Value → H) :
    ReturnsInHanded {} Try.checked os 8 .any (Rows.wordTellsSpec.pre6 enc Try.prog Try.f8 Rows.wordTellsRow.domain false) (Rows.wordTellsSpec.post enc Try.prog Try.f8 false true false false) := by
  refine returnsInHanded_of_change (C := Try.checked) ownKnobs started (by kernel_rfl) Try.func8
    (ChangeSpec.witness6 (enc := enc) (C := Try.checked) false ⟨#[], #[.int .i32 0, .int .i32 0, .int .u8 0, .int .u8 0], []⟩ 8 (by kernel_rfl) (by kernel_rfl) (by kernel_rfl) (by kernel_rfl)) ?_
  intro W base args ds gs before hval hW _ _
  refine law_contract rfl rfl (fun ds h => by match ds, h with | [d1, d2, d3, d4], _ => rfl) (by decide +kernel) hW ?_
  obtain ⟨p, q, hA0, _⟩ := hW
  have hA : DataW.TrodAll enc Try.prog W 0 (fun _ => true) true Try.f8.params.toList args.toList ds p := hA0
  have hval' : ∀ (j : Nat) t v, Try.f8.params[j]? = some t → args[j]? = some v → Value.okWide Try.prog W .any base t v := hval
  rw [Try.params8] at hA hval'
  obtain ⟨v0, vs0, d0, ds0, p0, q0, hargs, rfl, rfl, h0, r0⟩ := trodAll_cons hA
  obtain ⟨v1, vs1, d1, ds1, p1, q1, rfl, rfl, rfl, h1, r1⟩ := trodAll_cons r0
  obtain ⟨v2, vs2, d2, ds2, p2, q2, rfl, rfl, rfl, h2, r2⟩ := trodAll_cons r1
  obtain ⟨v3, vs3, d3, ds3, p3, q3, rfl, rfl, rfl, h3, r3⟩ := trodAll_cons r2
  obtain ⟨rfl, rfl, rfl⟩ := trodAll_nil r3
  obtain rfl : args = #[v0, v1, v2, v3] := by cases args; simp_all
  obtain ⟨a0, rfl, rfl, rfl, w0⟩ := open_int Try.underlying21 (hval' 0 _ v0 rfl rfl) h0
  have b0 : -2147483648 ≤ a0 ∧ a0 ≤ 2147483647 := by simpa [Lit.wf, IntKind.min, IntKind.max, IntKind.signed, IntKind.bits] using w0
  obtain ⟨a1, rfl, rfl, rfl, w1⟩ := open_int Try.underlying21 (hval' 1 _ v1 rfl rfl) h1
  have b1 : -2147483648 ≤ a1 ∧ a1 ≤ 2147483647 := by simpa [Lit.wf, IntKind.min, IntKind.max, IntKind.signed, IntKind.bits] using w1
  obtain ⟨z2, rfl, rfl, rfl, w2⟩ := open_int Try.underlying5 (hval' 2 _ v2 rfl rfl) h2
  have b2 : 0 ≤ z2 ∧ z2 ≤ 255 := by simpa [Lit.wf, IntKind.min, IntKind.max, IntKind.signed, IntKind.bits] using w2
  obtain ⟨a2, rfl⟩ : ∃ n : Nat, z2 = n := ⟨z2.toNat, by omega⟩
  obtain ⟨z3, rfl, rfl, rfl, w3⟩ := open_int Try.underlying5 (hval' 3 _ v3 rfl rfl) h3
  have b3 : 0 ≤ z3 ∧ z3 ≤ 255 := by simpa [Lit.wf, IntKind.min, IntKind.max, IntKind.signed, IntKind.bits] using w3
  obtain ⟨a3, rfl⟩ : ∃ n : Nat, z3 = n := ⟨z3.toNat, by omega⟩
  exact walk a0 a1 a2 a3 W b0 b1 (by omega) (by omega)

theorem proved : Rows.WordTellsSaid :=
  OpenClaim.holds_of_wide 8 Try.f8 rfl rfl rfl rfl rfl rfl rfl ⟨rfl, rfl, rfl, rfl, rfl⟩ rfl rfl rfl rfl rfl (by kernel_rfl) Try.func8 (by kernel_rfl)
    (of_decide_eq_true (by kernel_rfl)) (by unfold Func.isWrapper; first | (rw [if_pos (by decide +kernel)]; kernel_rfl) | (rw [if_neg (by decide +kernel)]; exact ⟨rfl, rfl⟩))
    (fun os started H enc _ => lifted os started H enc)

end Go.Proofs.Ytjnlgmjcabbaaaa.wordTells
