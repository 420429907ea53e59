/- VerifyJumps returns true for every input and changes nothing: code that reaches an instruction in two ways is accepted exactly if both have the same depth, and is otherwise an error at this instruction. No condition. -/
import Derived.Test.YtjnlgmjcabbaaaaOwnI8
import Derived.Test.YtjnlgmjcabbaaaaLaw
namespace Go.Proofs.Ytjnlgmjcabbaaaa.verifyJumps
set_option maxRecDepth 100000
open Go.RowKit Go.ChangeShapes Go.WideShapes Go.ChangeAt

theorem mod_of (k m : Nat) (hm : 0 < m) : ∃ i : Nat, (k : Int) % (m : Int) = (i : Int) ∧ i < m := ⟨k % m, by omega, Nat.mod_lt _ hm⟩

def pre (x j : Nat) : CodeL := [(1, 0), (11, 3 + (x : Int))] ++ List.replicate j (1, 1)
def mid (x y j : Nat) : CodeL := pre x x ++ [(10, 3 + (x : Int) + y)] ++ List.replicate j (1, 2)
def full (x y : Nat) (back : Bool) : CodeL := mid x y y ++ [if back then (10, 3 + (x : Int) + y) else (26, 0)]
theorem pre_len (x j : Nat) : (pre x j).length = 2 + j := by simp [pre]; omega
theorem mid_len (x y j : Nat) : (mid x y j).length = 3 + x + j := by simp [mid, pre_len]; omega
theorem full_len (x y : Nat) (back : Bool) : (full x y back).length = x + y + 4 := by simp [full, mid_len]; omega
theorem pre_succ (x j : Nat) : pre x (j + 1) = pre x j ++ [(1, 1)] := by unfold pre; rw [List.replicate_succ', List.append_assoc]
theorem mid_succ (x y j : Nat) : mid x y (j + 1) = mid x y j ++ [(1, 2)] := by unfold mid; rw [List.replicate_succ', List.append_assoc, List.append_assoc, List.append_assoc]
theorem full_i32 {x y : Nat} (back : Bool) (hx : x < 4) (hy : y < 4) : ∀ p ∈ full x y back, I32 p.2 := by
  intro p hp
  unfold full mid pre at hp
  unfold I32
  rcases List.mem_append.1 hp with hp | hp
  · rcases List.mem_append.1 hp with hp | hp
    · rcases List.mem_append.1 hp with hp | hp
      · rcases List.mem_append.1 hp with hp | hp
        · simp at hp; rcases hp with rfl | rfl <;> simp <;> omega
        · rw [List.eq_of_mem_replicate hp]; decide
      · simp at hp; subst hp; simp; omega
    · rw [List.eq_of_mem_replicate hp]; decide
  · cases back <;> simp at hp <;> subst hp <;> simp <;> omega
def jmpOk (x y : Nat) (back : Bool) : Bool :=
  if x = y then decide ((funcZ (full x y back) 1 1 0).2 = 0) && decide ((depthsZ (full x y back)).length = x + y + 4) && decide ((depthsZ (full x y back)).getD (x + y + 3) 0 = x)
  else decide (funcZ (full x y back) 1 1 0 = (((x + y + 3 : Nat) : Int), 24)) && decide ((depthsZ (full x y back)).length = 0)
theorem jmp_all : ((List.range 4).all fun x => (List.range 4).all fun y => jmpOk x y true && jmpOk x y false) = true := by kernel_rfl
theorem jmp_ok {x y : Nat} (back : Bool) (hx : x < 4) (hy : y < 4) : jmpOk x y back = true := by
  have h := List.all_eq_true.1 (List.all_eq_true.1 jmp_all x (List.mem_range.2 hx)) y (List.mem_range.2 hy)
  rw [Bool.and_eq_true] at h
  cases back
  · exact h.2
  · exact h.1
theorem jmp_facts {x y : Nat} (back : Bool) (hx : x < 4) (hy : y < 4) : ∃ r1 r2 D, funcZ (full x y back) 1 1 0 = (r1, r2) ∧ depthsZ (full x y back) = D ∧
    (x = y → r2 = 0 ∧ D.length = x + y + 4 ∧ D.getD (x + y + 3) 0 = x) ∧ (x ≠ y → r1 = ((x + y + 3 : Nat) : Int) ∧ r2 = 24 ∧ D.length = 0) := by
  have h := jmp_ok back hx hy
  unfold jmpOk at h
  obtain ⟨r1, r2, hr⟩ : ∃ r1 r2, funcZ (full x y back) 1 1 0 = (r1, r2) := ⟨_, _, rfl⟩
  rw [hr] at h ⊢
  refine ⟨r1, r2, _, rfl, rfl, fun e => ?_, fun e => ?_⟩
  · rw [if_pos e, Bool.and_eq_true, Bool.and_eq_true, decide_eq_true_eq, decide_eq_true_eq, decide_eq_true_eq] at h
    exact ⟨h.1.1, h.1.2, h.2⟩
  · rw [if_neg e, Bool.and_eq_true, decide_eq_true_eq, decide_eq_true_eq] at h
    have h1 := h.1
    injection h1 with h3 h4
    exact ⟨h3, h4, h.2⟩

set_option maxRecDepth 100000 in
set_option maxHeartbeats 8000000 in
theorem walk (a b : Nat) (back : Bool) (w : World) :
    Calls Try.prog 5 #[.int .u8 a, .int .u8 b, .bool back] w fun e w' => e = .returned (.bool true) ∧ Below w.heap.size w w' := by
  obtain ⟨x, hx, hx4⟩ := mod_of a 4 (by decide)
  obtain ⟨y, hy, hy4⟩ := mod_of b 4 (by decide)
  have hx' : (a : Int) % 4 = x := hx
  have hy' : (b : Int) % 4 = y := hy
  obtain ⟨r1, r2, D, hr, hD, h1, h2⟩ := jmp_facts back hx4 hy4
  have HR := Lib.hid hr; have HD := Lib.hid hD; have H1 := Lib.hid h1; have H2 := Lib.hid h2
  clear hx hy hr hD h1 h2
  go_enter Try.func5, Try.ntmps5
  go_wp2_with fail
  refine (known8_any w).mono ?_
  rintro e w1 ⟨rfl, hb⟩
  obtain ⟨w2, hw2⟩ : ∃ w2, w2 = w1.alloc (.cells #[.int .i64 1, .int .i32 0, .int .i64 11, .int .i32 (3 + (x : Int))] 32) := ⟨_, rfl⟩
  have O2 : Hid (OwnI w2 w1.heap.size (.slice (some ⟨w1.heap.size, 0, none⟩) 2 2) (pre x 0)) := Lib.hid (by rw [hw2]; exact OwnI.fresh w1 w1.heap.size [(1, 0), (11, 3 + (x : Int))] (Nat.le_refl _) (by show 2 ≤ 1000; omega))
  have hb2 : Below w1.heap.size w1 w2 := by rw [hw2]; exact below_alloc _ _
  have B2 := Lib.hid (nextB hb hb2); have W2 := Lib.hid hb2.size; have B0 := Lib.hid hb.size
  clear hb hb2
  go_wp2_with fail
  rw [← hw2]
  try rw [hx']
  try rw [hy']
  clear hw2 hx' hy'
  go_loopw [9, 10] (fun v i wr => ∃ j : Nat, j ≤ x ∧ i = .int .i64 j ∧ OwnI wr w1.heap.size v (pre x j) ∧ w1.heap.size ≤ wr.heap.size ∧ Below w.heap.size w wr) (fun _ i _ => x - (intOf i).toNat)
  case atStart => exact ⟨0, Nat.zero_le _, rfl, O2.out, W2.out, B2.out⟩
  case round =>
    clear O2 W2 B2
    obtain ⟨j, hj, rfl, ho, hw, hb⟩ := hrel
    have HO := Lib.hid ho; have HB := Lib.hid hb; have HW := Lib.hid hw; clear ho hb hw
    by_cases hjk : j < x
    · go_wp2_with (at_builtin; go_must (refine wpList_append_new 29 32 (.agg #[.int .i64 0, .int .i32 0]) 2 16 Try.underlying29 inf_instr rfl (by decide) (by decide) rfl (.tmp 35) (.tmp 37) rfl w1.heap.size _ _ _ _ [.int .i64 1, .int .i32 1] rfl rfl HO.out rfl rfl ?c1 ?c2 ?c3 ?_))
      case c1 => exact one_cells _ _
      case c2 => rw [pre_len]; omega
      case c3 => exact HW.out
      intro v3 w3 ho hg _
      have HO3 : Hid (OwnI w3 w1.heap.size v3 (pre x (j + 1))) := Lib.hid (by rw [pre_succ]; exact OwnI.snoc ho)
      have HB3 := Lib.hid ((Below.refl w1.heap.size _).grown hg HW.out (fun k hk => (World.ownsRow.lt HO.out k hk).1))
      have HB4 := Lib.hid (HB.out.trans (HB3.out.mono B0.out))
      have HW4 := Lib.hid (Nat.le_trans HW.out HB3.out.size)
      clear ho hg HO HB HB3 HW
      go_wp2_with fail
      go_roundw
      case rel => exact ⟨j + 1, by omega, by go_num, HO3.out, HW4.out, HB4.out⟩
      case measure => simp [intOf]; omega
    · obtain rfl : x = j := by omega
      go_wp2_with (at_builtin; go_must (refine wpList_append_new 29 32 (.agg #[.int .i64 0, .int .i32 0]) 2 16 Try.underlying29 inf_instr rfl (by decide) (by decide) rfl (.tmp 39) (.tmp 46) rfl w1.heap.size _ _ _ _ [.int .i64 10, .int .i32 (3 + (x : Int) + y)] rfl rfl HO.out rfl rfl ?c1 ?c2 ?c3 ?_))
      case c1 => exact one_cells _ _
      case c2 => rw [pre_len]; omega
      case c3 => exact HW.out
      intro v3 w3 ho hg _
      have HO3 : Hid (OwnI w3 w1.heap.size v3 (mid x y 0)) := Lib.hid (by
        have : mid x y 0 = pre x x ++ [(10, 3 + (x : Int) + y)] := by unfold mid; rw [List.replicate_zero, List.append_nil]
        rw [this]; exact OwnI.snoc ho)
      have HB3 := Lib.hid ((Below.refl w1.heap.size _).grown hg HW.out (fun k hk => (World.ownsRow.lt HO.out k hk).1))
      have HB4 := Lib.hid (HB.out.trans (HB3.out.mono B0.out))
      have HW4 := Lib.hid (Nat.le_trans HW.out HB3.out.size)
      clear ho hg HO HB HB3 HW
      go_wp2_with fail
      go_loopw [9, 11] (fun v i wr => ∃ j : Nat, j ≤ y ∧ i = .int .i64 j ∧ OwnI wr w1.heap.size v (mid x y j) ∧ w1.heap.size ≤ wr.heap.size ∧ Below w.heap.size w wr) (fun _ i _ => y - (intOf i).toNat)
      case atStart => exact ⟨0, Nat.zero_le _, rfl, HO3.out, HW4.out, HB4.out⟩
      case round =>
        clear HO3 HW4 HB4
        obtain ⟨j, hj, rfl, ho, hw, hb⟩ := hrel
        have HO := Lib.hid ho; have HB := Lib.hid hb; have HW := Lib.hid hw; clear hb hw
        by_cases hjk : j < y
        · clear ho
          go_wp2_with (at_builtin; go_must (refine wpList_append_new 29 32 (.agg #[.int .i64 0, .int .i32 0]) 2 16 Try.underlying29 inf_instr rfl (by decide) (by decide) rfl (.tmp 53) (.tmp 55) rfl w1.heap.size _ _ _ _ [.int .i64 1, .int .i32 2] rfl rfl HO.out rfl rfl ?c1 ?c2 ?c3 ?_))
          case c1 => exact one_cells _ _
          case c2 => rw [mid_len]; omega
          case c3 => exact HW.out
          intro v3 w3 ho hg _
          have HO3 : Hid (OwnI w3 w1.heap.size v3 (mid x y (j + 1))) := Lib.hid (by rw [mid_succ]; exact OwnI.snoc ho)
          have HB3 := Lib.hid ((Below.refl w1.heap.size _).grown hg HW.out (fun k hk => (World.ownsRow.lt HO.out k hk).1))
          have HB4 := Lib.hid (HB.out.trans (HB3.out.mono B0.out))
          have HW4 := Lib.hid (Nat.le_trans HW.out HB3.out.size)
          clear ho hg HO HB HB3 HW
          go_wp2_with fail
          go_roundw
          case rel => exact ⟨j + 1, by omega, by go_num, HO3.out, HW4.out, HB4.out⟩
          case measure => simp [intOf]; omega
        · obtain rfl : y = j := by omega
          obtain ⟨A5, c5, hv5⟩ := ho.slice
          obtain ⟨M, hM⟩ : ∃ M, 3 + x + y = M := ⟨_, rfl⟩
          rw [mid_len, hM] at hv5
          subst hv5
          have HM := Lib.hid hM
          have hMr : (M : Int) ≤ 10 := by omega
          clear ho hM
          cases hbk : back with
          | true =>
            subst hbk
            go_wp2_with (at_builtin; go_must (refine wpList_append_new 29 32 (.agg #[.int .i64 0, .int .i32 0]) 2 16 Try.underlying29 inf_instr rfl (by decide) (by decide) rfl (.tmp 60) (.tmp 64) rfl w1.heap.size _ _ _ _ [.int .i64 10, .int .i32 M] rfl rfl HO.out rfl rfl ?c1 ?c2 ?c3 ?_))
            case c1 => exact one_cells _ _
            case c2 => rw [mid_len]; omega
            case c3 => exact HW.out
            intro v3 w3 ho hg _
            have hown3 : OwnI w3 w1.heap.size v3 (full x y true) := by
              have e : (M : Int) = 3 + (x : Int) + y := by have := HM.out; omega
              rw [e] at ho
              exact OwnI.snoc ho
            have HR3 := Lib.hid (RowI.of_own hown3 (full_i32 _ hx4 hy4))
            have HB3 := Lib.hid ((Below.refl w1.heap.size _).grown hg HW.out (fun k hk => (World.ownsRow.lt HO.out k hk).1))
            have HB4 := Lib.hid (HB.out.trans (HB3.out.mono B0.out))
            obtain ⟨A3, c3, hv3⟩ := hown3.slice
            obtain ⟨N, hN⟩ : ∃ N, x + y + 4 = N := ⟨_, rfl⟩
            have hl3 := full_len x y true
            rw [hN] at hl3
            rw [hl3] at hv3
            subst hv3
            have HL3 := Lib.hid hl3; have HN := Lib.hid hN
            clear ho hg HO HB HB3 HW hown3 hl3 hN
            go_wp2_with fail
            refine (func_lit w3 HR3.out (by rw [HL3.out]; have := HN.out; omega) HR.out).mono ?_
            rintro e w4 ⟨rfl, hb⟩
            have HR4 := Lib.hid (HR3.out.later hb)
            have HB5 := Lib.hid (nextB HB4.out hb)
            clear hb HR3 HB4
            go_wp2_with fail
            refine (depths_lit w4 HR4.out (by rw [HL3.out]; have := HN.out; omega) HD.out).mono ?_
            rintro e w5 ⟨⟨v, rfl, hI⟩, hb⟩
            have HB6 := Lib.hid (nextB HB5.out hb)
            obtain ⟨AD, cD, rfl, hl⟩ := hI
            by_cases hxy : x = y
            · obtain ⟨rfl, d1, d2⟩ := H1.out hxy
              obtain ⟨b, off, rfl, _, hc⟩ := lie_int hl (k := M) (by have := HM.out; omega)
              have hv : D[M]'(by have := HM.out; omega) = (x : Int) := by rw [← d2, List.getD_eq_getElem?_getD, show x + y + 3 = M from by have := HM.out; omega, List.getElem?_eq_getElem (by have := HM.out; omega)]; rfl
              rw [hv] at hc
              rw [d1, HN.out]
              have hMN : M < N := by have := HM.out; have := HN.out; omega
              have exy : ((x : Int) == (y : Int)) = true := by simp; omega
              clear hl hb HB5 HR4 hv d1 d2 hxy
              go_wp2_with fail
              go_ret
              exact ⟨rfl, HB6.out⟩
            · obtain ⟨rfl, rfl, d1⟩ := H2.out hxy
              rw [d1, show x + y + 3 = M from by have := HM.out; omega]
              have exy : ((x : Int) == (y : Int)) = false := by simp; omega
              clear hl hb HB5 HR4 d1 hxy
              go_wp2_with fail
              go_ret
              exact ⟨rfl, HB6.out⟩
          | false =>
            subst hbk
            go_wp2_with (at_builtin; go_must (refine wpList_append_new 29 32 (.agg #[.int .i64 0, .int .i32 0]) 2 16 Try.underlying29 inf_instr rfl (by decide) (by decide) rfl (.tmp 66) (.tmp 68) rfl w1.heap.size _ _ _ _ [.int .i64 26, .int .i32 0] rfl rfl HO.out rfl rfl ?c1 ?c2 ?c3 ?_))
            case c1 => exact one_cells _ _
            case c2 => rw [mid_len]; omega
            case c3 => exact HW.out
            intro v3 w3 ho hg _
            have hown3 : OwnI w3 w1.heap.size v3 (full x y false) := OwnI.snoc ho
            have HR3 := Lib.hid (RowI.of_own hown3 (full_i32 _ hx4 hy4))
            have HB3 := Lib.hid ((Below.refl w1.heap.size _).grown hg HW.out (fun k hk => (World.ownsRow.lt HO.out k hk).1))
            have HB4 := Lib.hid (HB.out.trans (HB3.out.mono B0.out))
            obtain ⟨A3, c3, hv3⟩ := hown3.slice
            obtain ⟨N, hN⟩ : ∃ N, x + y + 4 = N := ⟨_, rfl⟩
            have hl3 := full_len x y false
            rw [hN] at hl3
            rw [hl3] at hv3
            subst hv3
            have HL3 := Lib.hid hl3; have HN := Lib.hid hN
            clear ho hg HO HB HB3 HW hown3 hl3 hN
            go_wp2_with fail
            refine (func_lit w3 HR3.out (by rw [HL3.out]; have := HN.out; omega) HR.out).mono ?_
            rintro e w4 ⟨rfl, hb⟩
            have HR4 := Lib.hid (HR3.out.later hb)
            have HB5 := Lib.hid (nextB HB4.out hb)
            clear hb HR3 HB4
            go_wp2_with fail
            refine (depths_lit w4 HR4.out (by rw [HL3.out]; have := HN.out; omega) HD.out).mono ?_
            rintro e w5 ⟨⟨v, rfl, hI⟩, hb⟩
            have HB6 := Lib.hid (nextB HB5.out hb)
            obtain ⟨AD, cD, rfl, hl⟩ := hI
            by_cases hxy : x = y
            · obtain ⟨rfl, d1, d2⟩ := H1.out hxy
              obtain ⟨b, off, rfl, _, hc⟩ := lie_int hl (k := M) (by have := HM.out; omega)
              have hv : D[M]'(by have := HM.out; omega) = (x : Int) := by rw [← d2, List.getD_eq_getElem?_getD, show x + y + 3 = M from by have := HM.out; omega, List.getElem?_eq_getElem (by have := HM.out; omega)]; rfl
              rw [hv] at hc
              rw [d1, HN.out]
              have hMN : M < N := by have := HM.out; have := HN.out; omega
              have exy : ((x : Int) == (y : Int)) = true := by simp; omega
              clear hl hb HB5 HR4 hv d1 d2 hxy
              go_wp2_with fail
              go_ret
              exact ⟨rfl, HB6.out⟩
            · obtain ⟨rfl, rfl, d1⟩ := H2.out hxy
              rw [d1, show x + y + 3 = M from by have := HM.out; omega]
              have exy : ((x : Int) == (y : Int)) = false := by simp; omega
              clear hl hb HB5 HR4 d1 hxy
              go_wp2_with fail
              go_ret
              exact ⟨rfl, HB6.out⟩

/- The claim. -/

set_option maxRecDepth 100000 in
theorem lifted (os : Os) (started : os.Started) (H : Type) (enc : TypeId × Value → H) :
    ReturnsInHanded {} Try.checked os 5 .any (Rows.verifyJumpsSpec.pre6 enc Try.prog Try.f5 Rows.verifyJumpsRow.domain false) (Rows.verifyJumpsSpec.post enc Try.prog Try.f5 false true false false) := by
  refine returnsInHanded_of_change (C := Try.checked) ownKnobs started (by kernel_rfl) Try.func5
    (ChangeSpec.witness6 (enc := enc) (C := Try.checked) false ⟨#[], #[.int .u8 0, .int .u8 0, .bool false], []⟩ 8 (by kernel_rfl) (by kernel_rfl) (by kernel_rfl) (by kernel_rfl)) ?_
  intro W base args ds gs before hval hW _ _
  refine law_contract rfl rfl (fun ds h => by match ds, h with | [d1, d2, d3], _ => rfl) (by decide +kernel) hW ?_
  obtain ⟨p, q, hA0, _⟩ := hW
  have hA : DataW.TrodAll enc Try.prog W 0 (fun _ => true) true Try.f5.params.toList args.toList ds p := hA0
  have hval' : ∀ (j : Nat) t v, Try.f5.params[j]? = some t → args[j]? = some v → Value.okWide Try.prog W .any base t v := hval
  rw [Try.params5] at hA hval'
  obtain ⟨v0, vs0, d0, ds0, p0, q0, hargs, rfl, rfl, h0, r0⟩ := trodAll_cons hA
  obtain ⟨v1, vs1, d1, ds1, p1, q1, rfl, rfl, rfl, h1, r1⟩ := trodAll_cons r0
  obtain ⟨v2, vs2, d2, ds2, p2, q2, rfl, rfl, rfl, h2, r2⟩ := trodAll_cons r1
  obtain ⟨rfl, rfl, rfl⟩ := trodAll_nil r2
  obtain rfl : args = #[v0, v1, v2] := by cases args; simp_all
  obtain ⟨z0, rfl, rfl, rfl, w0⟩ := open_int Try.underlying5 (hval' 0 _ v0 rfl rfl) h0
  have b0 : 0 ≤ z0 ∧ z0 ≤ 255 := by simpa [Lit.wf, IntKind.min, IntKind.max, IntKind.signed, IntKind.bits] using w0
  obtain ⟨a0, rfl⟩ : ∃ n : Nat, z0 = n := ⟨z0.toNat, by omega⟩
  obtain ⟨z1, rfl, rfl, rfl, w1⟩ := open_int Try.underlying5 (hval' 1 _ v1 rfl rfl) h1
  have b1 : 0 ≤ z1 ∧ z1 ≤ 255 := by simpa [Lit.wf, IntKind.min, IntKind.max, IntKind.signed, IntKind.bits] using w1
  obtain ⟨a1, rfl⟩ : ∃ n : Nat, z1 = n := ⟨z1.toNat, by omega⟩
  obtain ⟨a2, rfl, rfl, rfl⟩ := open_bool Try.underlying4 (hval' 2 _ v2 rfl rfl) h2
  exact walk a0 a1 a2 W

theorem proved : Rows.VerifyJumpsSaid :=
  OpenClaim.holds_of_wide 5 Try.f5 rfl rfl rfl rfl rfl rfl rfl ⟨rfl, rfl, rfl, rfl, rfl⟩ rfl rfl rfl rfl rfl (by kernel_rfl) Try.func5 (by kernel_rfl)
    (of_decide_eq_true (by kernel_rfl)) (by unfold Func.isWrapper; first | (rw [if_pos (by decide +kernel)]; kernel_rfl) | (rw [if_neg (by decide +kernel)]; exact ⟨rfl, rfl⟩))
    (fun os started H enc _ => lifted os started H enc)

end Go.Proofs.Ytjnlgmjcabbaaaa.verifyJumps
