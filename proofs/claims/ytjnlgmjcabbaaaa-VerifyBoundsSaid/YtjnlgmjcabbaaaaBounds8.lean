/- VerifyBounds returns true for every input and changes nothing: an argument that is not less than its bound is an error at its instruction; smaller ones are accepted, but for jumps back to another depth. No condition. -/
import Derived.Test.YtjnlgmjcabbaaaaBndF8
import Derived.Test.YtjnlgmjcabbaaaaLaw
namespace Go.Proofs.Ytjnlgmjcabbaaaa.verifyBounds
set_option maxRecDepth 100000
open Go.RowKit Go.ChangeShapes Go.WideShapes Go.ChangeAt

theorem mod_of (k m : Nat) (hm : 0 < m) : ∃ i : Nat, (k : Int) % (m : Int) = (i : Int) ∧ i < m := ⟨k % m, by omega, Nat.mod_lt _ hm⟩

set_option maxRecDepth 100000 in
set_option maxHeartbeats 8000000 in
theorem walk (k a fs ls gs : Nat) (w : World) :
    Calls Try.prog 6 #[.int .u8 k, .int .u8 a, .int .u8 fs, .int .u8 ls, .int .u8 gs] w fun e w' => e = .returned (.bool true) ∧ Below w.heap.size w w' := by
  obtain ⟨i, hi, hi5⟩ := mod_of k 5 (by decide)
  obtain ⟨n, hn, hn12⟩ := mod_of a 12 (by decide)
  obtain ⟨f, hf, hf10⟩ := mod_of fs 10 (by decide)
  obtain ⟨l, hl, hl10⟩ := mod_of ls 10 (by decide)
  obtain ⟨g, hg, hg10⟩ := mod_of gs 10 (by decide)
  have hi' : (k : Int) % 5 = i := hi
  have hn' : (a : Int) % 12 = n := hn
  have hf' : (fs : Int) % 10 = f := hf
  have hl' : (ls : Int) % 10 = l := hl
  have hg' : (gs : Int) % 10 = g := hg
  obtain ⟨r1, r2, hr, hyes, hno⟩ := bf_all i hi5 n f l g
  obtain ⟨o, ho⟩ : ∃ o, opB i = o := ⟨_, rfl⟩
  obtain ⟨mo, hmo⟩ : ∃ mo, moB f l g i = mo := ⟨_, rfl⟩
  rw [ho] at hr
  rw [hmo] at hyes hno
  have HO : Hid (∀ (w : World) b, w.heap[b]? = some (.cells #[.int .i64 10, .int .i64 12, .int .i64 15, .int .i64 20, .int .i64 24] 3 (0, 0)) → w.cell? ⟨b, i, none⟩ = some (.int .i64 o)) := Lib.hid (by
    intro w b h
    rw [cell_blk h, ← ho]
    rcases (by omega : i = 0 ∨ i = 1 ∨ i = 2 ∨ i = 3 ∨ i = 4) with rfl | rfl | rfl | rfl | rfl <;> rfl)
  have HM : Hid (∀ (w : World) b, w.heap[b]? = some (.cells #[.int .i64 4, .int .i64 4, .int .i64 l, .int .i64 f, .int .i64 g] 3 (0, 0)) → w.cell? ⟨b, i, none⟩ = some (.int .i64 mo)) := Lib.hid (by
    intro w b h
    rw [cell_blk h, ← hmo]
    rcases (by omega : i = 0 ∨ i = 1 ∨ i = 2 ∨ i = 3 ∨ i = 4) with rfl | rfl | rfl | rfl | rfl <;> rfl)
  have EM : Hid ([Value.int .i64 4, Value.int .i64 4, Value.int .i64 l, Value.int .i64 f, Value.int .i64 g][i]'(by simpa using hi5) = .int .i64 mo) := Lib.hid (by
    simp only [← hmo]
    rcases (by omega : i = 0 ∨ i = 1 ∨ i = 2 ∨ i = 3 ∨ i = 4) with rfl | rfl | rfl | rfl | rfl <;> rfl)
  have HR := Lib.hid hr; have HY := Lib.hid hyes; have HNO := Lib.hid hno
  have HI32 : Hid (∀ p ∈ bf o n, I32 p.2) := Lib.hid (by
    intro p hp
    unfold bf at hp
    simp at hp
    unfold I32
    rcases hp with rfl | rfl | rfl <;> simp <;> omega)
  clear hi hn hf hl hg hr hyes hno ho hmo
  go_enter Try.func6, Try.ntmps6
  go_wp2_with fail
  refine (known8_any w).mono ?_
  rintro e w1 ⟨rfl, hb⟩
  have B1 := Lib.hid hb; clear hb
  obtain ⟨w2, hw2⟩ : ∃ w2, w2 = w1.alloc (.cells #[.int .i64 10, .int .i64 12, .int .i64 15, .int .i64 20, .int .i64 24] 3) := ⟨_, rfl⟩
  obtain ⟨w3, hw3⟩ : ∃ w3, w3 = w2.alloc (.cells #[.int .i64 4, .int .i64 4, .int .i64 l, .int .i64 f, .int .i64 g] 3) := ⟨_, rfl⟩
  have c2 : w3.cell? ⟨w1.heap.size + 1, i, none⟩ = some (.int .i64 mo) := HM.out w3 _ (by
    have := heap_alloc_new w2 (.cells #[.int .i64 4, .int .i64 4, .int .i64 l, .int .i64 f, .int .i64 g] 3)
    rw [← hw3] at this; rw [← this]; congr 1; rw [hw2]; simp)
  have c1 : w3.cell? ⟨w1.heap.size, i, none⟩ = some (.int .i64 o) := HO.out w3 _ (by
    rw [hw3, heap_alloc_old _ _ (by rw [hw2]; simp), hw2]; exact heap_alloc_new w1 _)
  have B3 := Lib.hid (show Below w.heap.size w w3 by rw [hw3, hw2]; exact nextB (nextB B1.out (below_alloc _ _)) (below_alloc _ _))
  obtain ⟨w4, hw4⟩ : ∃ w4, w4 = w3.alloc (.cells #[.int .i64 1, .int .i32 0, .int .i64 1, .int .i32 0, .int .i64 o, .int .i32 n, .int .i64 26, .int .i32 0] 32) := ⟨_, rfl⟩
  have J4 : Hid (RowI w4 w4.heap.size (.slice (some ⟨w3.heap.size, 0, none⟩) 4 4) (bf o n)) := Lib.hid (by rw [hw4]; exact RowI.fresh w3 (bf o n) HI32.out)
  have B4 := Lib.hid (show Below w.heap.size w w4 by rw [hw4]; exact nextB B3.out (below_alloc _ _))
  have HW2 := Lib.hid hw2; have HW3 := Lib.hid hw3
  rw [hw2] at hw3
  clear hw2 B1 B3
  go_upto_region 7 with (fail)
  rw [EM.out, ← hw3]
  clear hw3 c2
  go_upto_region 8 with (fail)
  rw [← hw4]
  clear hw4 c1
  go_wp2_with fail
  refine (func_lit (f := bf o n) (a := r1) (b := r2) w4 J4.out (by show 4 ≤ 100000; omega) HR.out).mono ?_
  rintro e w5 ⟨rfl, hb⟩
  have B5 := Lib.hid (nextB B4.out hb); clear hb J4 B4
  by_cases hm : mo ≤ n
  · obtain ⟨rfl, rfl⟩ := HY.out hm
    go_wp2_with fail
    go_ret
    exact ⟨rfl, B5.out⟩
  · have hm2 : (n : Int) < mo := by omega
    obtain ⟨h1, h2⟩ := HNO.out hm2
    have H1 := Lib.hid h1; have H2 := Lib.hid h2
    clear h1 h2 HY HNO
    by_cases hi0 : i = 0
    · have e0 : ((i : Int) == 0) = true := by simp; omega
      by_cases hn2 : n < 2
      · obtain rfl := H1.out ⟨hi0, hn2⟩
        clear hi0
        go_wp2_with fail
        go_ret
        exact ⟨rfl, B5.out⟩
      · obtain rfl := H2.out (fun h => hn2 h.2)
        clear hi0
        go_wp2_with fail
        go_ret
        exact ⟨rfl, B5.out⟩
    · obtain rfl := H2.out (fun h => hi0 h.1)
      have e0 : ((i : Int) == 0) = false := by simp; omega
      clear hi0
      go_wp2_with fail
      go_ret
      exact ⟨rfl, B5.out⟩

/- The claim. -/

set_option maxRecDepth 100000 in
theorem lifted (os : Os) (started : os.Started) (H : Type) (enc : TypeId × Value → H) :
    ReturnsInHanded {} Try.checked os 6 .any (Rows.verifyBoundsSpec.pre6 enc Try.prog Try.f6 Rows.verifyBoundsRow.domain false) (Rows.verifyBoundsSpec.post enc Try.prog Try.f6 false true false false) := by
  refine returnsInHanded_of_change (C := Try.checked) ownKnobs started (by kernel_rfl) Try.func6
    (ChangeSpec.witness6 (enc := enc) (C := Try.checked) false ⟨#[], #[.int .u8 0, .int .u8 0, .int .u8 0, .int .u8 0, .int .u8 0], []⟩ 8 (by kernel_rfl) (by kernel_rfl) (by kernel_rfl) (by kernel_rfl)) ?_
  intro W base args ds gs before hval hW _ _
  refine law_contract rfl rfl (fun ds h => by match ds, h with | [d1, d2, d3, d4, d5], _ => rfl) (by decide +kernel) hW ?_
  obtain ⟨p, q, hA0, _⟩ := hW
  have hA : DataW.TrodAll enc Try.prog W 0 (fun _ => true) true Try.f6.params.toList args.toList ds p := hA0
  have hval' : ∀ (j : Nat) t v, Try.f6.params[j]? = some t → args[j]? = some v → Value.okWide Try.prog W .any base t v := hval
  rw [Try.params6] at hA hval'
  obtain ⟨v0, vs0, d0, ds0, p0, q0, hargs, rfl, rfl, h0, r0⟩ := trodAll_cons hA
  obtain ⟨v1, vs1, d1, ds1, p1, q1, rfl, rfl, rfl, h1, r1⟩ := trodAll_cons r0
  obtain ⟨v2, vs2, d2, ds2, p2, q2, rfl, rfl, rfl, h2, r2⟩ := trodAll_cons r1
  obtain ⟨v3, vs3, d3, ds3, p3, q3, rfl, rfl, rfl, h3, r3⟩ := trodAll_cons r2
  obtain ⟨v4, vs4, d4, ds4, p4, q4, rfl, rfl, rfl, h4, r4⟩ := trodAll_cons r3
  obtain ⟨rfl, rfl, rfl⟩ := trodAll_nil r4
  obtain rfl : args = #[v0, v1, v2, v3, v4] := by cases args; simp_all
  obtain ⟨z0, rfl, rfl, rfl, w0⟩ := open_int Try.underlying5 (hval' 0 _ v0 rfl rfl) h0
  have b0 : 0 ≤ z0 ∧ z0 ≤ 255 := by simpa [Lit.wf, IntKind.min, IntKind.max, IntKind.signed, IntKind.bits] using w0
  obtain ⟨a0, rfl⟩ : ∃ n : Nat, z0 = n := ⟨z0.toNat, by omega⟩
  obtain ⟨z1, rfl, rfl, rfl, w1⟩ := open_int Try.underlying5 (hval' 1 _ v1 rfl rfl) h1
  have b1 : 0 ≤ z1 ∧ z1 ≤ 255 := by simpa [Lit.wf, IntKind.min, IntKind.max, IntKind.signed, IntKind.bits] using w1
  obtain ⟨a1, rfl⟩ : ∃ n : Nat, z1 = n := ⟨z1.toNat, by omega⟩
  obtain ⟨z2, rfl, rfl, rfl, w2⟩ := open_int Try.underlying5 (hval' 2 _ v2 rfl rfl) h2
  have b2 : 0 ≤ z2 ∧ z2 ≤ 255 := by simpa [Lit.wf, IntKind.min, IntKind.max, IntKind.signed, IntKind.bits] using w2
  obtain ⟨a2, rfl⟩ : ∃ n : Nat, z2 = n := ⟨z2.toNat, by omega⟩
  obtain ⟨z3, rfl, rfl, rfl, w3⟩ := open_int Try.underlying5 (hval' 3 _ v3 rfl rfl) h3
  have b3 : 0 ≤ z3 ∧ z3 ≤ 255 := by simpa [Lit.wf, IntKind.min, IntKind.max, IntKind.signed, IntKind.bits] using w3
  obtain ⟨a3, rfl⟩ : ∃ n : Nat, z3 = n := ⟨z3.toNat, by omega⟩
  obtain ⟨z4, rfl, rfl, rfl, w4⟩ := open_int Try.underlying5 (hval' 4 _ v4 rfl rfl) h4
  have b4 : 0 ≤ z4 ∧ z4 ≤ 255 := by simpa [Lit.wf, IntKind.min, IntKind.max, IntKind.signed, IntKind.bits] using w4
  obtain ⟨a4, rfl⟩ : ∃ n : Nat, z4 = n := ⟨z4.toNat, by omega⟩
  exact walk a0 a1 a2 a3 a4 W

theorem proved : Rows.VerifyBoundsSaid :=
  OpenClaim.holds_of_wide 6 Try.f6 rfl rfl rfl rfl rfl rfl rfl ⟨rfl, rfl, rfl, rfl, rfl⟩ rfl rfl rfl rfl rfl (by kernel_rfl) Try.func6 (by kernel_rfl)
    (of_decide_eq_true (by kernel_rfl)) (by unfold Func.isWrapper; first | (rw [if_pos (by decide +kernel)]; kernel_rfl) | (rw [if_neg (by decide +kernel)]; exact ⟨rfl, rfl⟩))
    (fun os started H enc _ => lifted os started H enc)

end Go.Proofs.Ytjnlgmjcabbaaaa.verifyBounds
