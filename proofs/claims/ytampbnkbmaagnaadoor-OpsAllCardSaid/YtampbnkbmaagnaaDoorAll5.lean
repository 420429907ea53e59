/- OpsAll returns true for every input and changes nothing: twenty-six instructions, each of its own name, none takes or leaves more than two values, one that ends leaves none. No condition but what the package's own text lays. -/
import Derived.Test.YtampbnkbmaagnaaDoorKnown5
import Derived.Test.YtampbnkbmaagnaaDoorArgI
import Derived.Test.YtampbnkbmaagnaaDoorTie
import Derived.Test.YtampbnkbmaagnaaDoorCards
import Derived.SevenTiedAt
namespace Go.Proofs.YtampbnkbmaagnaaDoor.opsAll
open Go.RowKit Go.ChangeShapes Go.WideShapes Go.ChangeAt

/-- What is said of one instruction. -/
def okB (i : Nat) : Bool := knownB i && !knownB (-(i : Int)) && decide (0 ≤ popsZ i) && decide (popsZ i ≤ 2) && decide (0 ≤ pushesZ i) && decide (pushesZ i ≤ 2) && (!endsB i || pushesZ i == 0) && decide (0 ≤ argZ i) && decide (argZ i ≤ 6)
theorem ok_all : ∀ i, i < 27 → 1 ≤ i → okB i = true := by decide
/-- Names are alike just where the numbers are. -/
theorem name_iff {i j : Nat} (hi : 1 ≤ i) (hi2 : i < 27) (hj : 1 ≤ j) (hj2 : j < 27) : ((nm i).toList == (nm j).toList) = ((i : Int) == (j : Int)) := by
  by_cases h : i = j
  · subst h; rw [beq_self_eq_true, beq_self_eq_true]
  · rw [beq_eq_false_iff_ne.2 (show (i : Int) ≠ j by omega), beq_eq_false_iff_ne]
    intro e
    rw [ByteArray.toList_eq, ByteArray.toList_eq] at e
    have := bytes_inj e
    have h1 := findN_nm hi hi2
    rw [this, findN_nm hj hj2] at h1
    exact h h1.symm
theorem nameA_nat {i : Nat} (hi : 1 ≤ i) (hi2 : i < 27) : nameA i = nm i := by
  have : knownB i = true := (knownB_iff _).2 (by omega)
  unfold nameA; rw [this]; rfl

set_option maxHeartbeats 8000000 in
theorem walk (a b : Nat) (w : World) (ha : a ≤ 255) (hb : b ≤ 255) (hN : NamesIn w) :
    Calls Tryd.prog 4 #[.int .u8 a, .int .u8 b] w fun e w' => e = .returned (.bool true) ∧ Below w.heap.size w w' := by
  obtain ⟨i, hi⟩ : ∃ i : Nat, i = a % 26 + 1 := ⟨_, rfl⟩
  obtain ⟨j, hj⟩ : ∃ j : Nat, j = b % 26 + 1 := ⟨_, rfl⟩
  have ei : ((a : Int) % 26) + 1 = (i : Int) := by omega
  have ej : ((b : Int) % 26) + 1 = (j : Int) := by omega
  have i1 : 1 ≤ i := by omega
  have i2 : i < 27 := by omega
  have j1 : 1 ≤ j := by omega
  have j2 : j < 27 := by omega
  have HO := Lib.hid (ok_all i i2 i1)
  have HQ := Lib.hid (name_iff i1 i2 j1 j2)
  have HNI := Lib.hid (nameA_nat i1 i2); have HNJ := Lib.hid (nameA_nat j1 j2)
  have HN := Lib.hid hN; clear hN hi hj
  go_enter Tryd.func4, Tryd.ntmps4
  go_wp2_with fail
  refine (known5_any w HN.out).mono ?_
  rintro e w1 ⟨rfl, hb1⟩
  have HN1 := Lib.hid (HN.out.below hb1); have B1 := Lib.hid hb1; clear hb1 HN
  go_wp2_with fail
  clear ei ej
  obtain ⟨p, hp⟩ : ∃ p, popsZ i = p := ⟨_, rfl⟩
  obtain ⟨q, hq⟩ : ∃ q, pushesZ i = q := ⟨_, rfl⟩
  obtain ⟨f, hf⟩ : ∃ f, endsB i = f := ⟨_, rfl⟩
  obtain ⟨g, hg⟩ : ∃ g, argZ i = g := ⟨_, rfl⟩
  obtain ⟨z, hz⟩ : ∃ z, ((i : Int) == (j : Int)) = z := ⟨_, rfl⟩
  have HZ := HQ.out; rw [hz] at HZ
  have o := HO.out
  unfold okB at o
  rw [hp, hq, hf, hg] at o
  simp only [Bool.and_eq_true, decide_eq_true_eq, Bool.not_eq_true'] at o
  obtain ⟨⟨⟨⟨⟨⟨⟨⟨k1, k2⟩, p1⟩, p2⟩, q1⟩, q2⟩, fq⟩, g1⟩, g2⟩ := o
  have K1 := Lib.hid k1; have K2 := Lib.hid k2; have HP := Lib.hid hp; have HQ2 := Lib.hid hq; have HF := Lib.hid hf; have HG := Lib.hid hg; have FQ := Lib.hid fq
  clear k1 k2 hp hq hf hg fq HO HQ
  refine (known_lit (b := true) w1 K1.out).mono ?_
  rintro e w' ⟨rfl, rfl⟩
  go_wp2_with fail
  refine (known_lit (b := false) w' (by decide)).mono ?_
  rintro e w1 ⟨rfl, rfl⟩
  go_wp2_with fail
  refine (known_lit (b := false) w1 K2.out).mono ?_
  rintro e w' ⟨rfl, rfl⟩
  go_wp2_with fail
  refine (name_lit w' HN1.out HNI.out).mono ?_
  rintro e w1 ⟨rfl, rfl⟩
  go_wp2_with fail
  refine (name_lit w1 HN1.out HNJ.out).mono ?_
  rintro e w' ⟨rfl, rfl⟩
  cases z with
  | true =>
    go_wp2_with fail
    refine (pops_lit w' HP.out).mono ?_
    rintro e w2 ⟨rfl, hb⟩
    have B2 := Lib.hid (nextW B1.out hb); clear hb B1
    go_wp2_with fail
    refine (pops_lit w2 HP.out).mono ?_
    rintro e w3 ⟨rfl, hb⟩
    have B3 := Lib.hid (nextW B2.out hb); clear hb B2
    go_wp2_with fail
    refine (pushes_lit w3 HQ2.out).mono ?_
    rintro e w4 ⟨rfl, hb⟩
    have B4 := Lib.hid (nextW B3.out hb); clear hb B3
    go_wp2_with fail
    refine (pushes_lit w4 HQ2.out).mono ?_
    rintro e w5 ⟨rfl, hb⟩
    have B5 := Lib.hid (nextW B4.out hb); clear hb B4
    go_wp2_with fail
    refine (ends_lit w5 HF.out).mono ?_
    rintro e w6 ⟨rfl, rfl⟩
    cases f with
    | false =>
      go_wp2_with fail
      refine (arg_lit w6 HG.out).mono ?_
      rintro e w7 ⟨rfl, hb⟩
      have B7 := Lib.hid (nextW B5.out hb); clear hb B5
      go_wp2_with fail
      refine (arg_lit w7 HG.out).mono ?_
      rintro e w8 ⟨rfl, hb⟩
      have B8 := Lib.hid (nextW B7.out hb); clear hb B7
      go_wp2_with fail
      go_ret
      exact ⟨rfl, B8.out⟩
    | true =>
      have q0 : q = 0 := by simpa using FQ.out
      subst q0
      go_wp2_with fail
      refine (pushes_lit w6 HQ2.out).mono ?_
      rintro e w9 ⟨rfl, hb⟩
      have B9 := Lib.hid (nextW B5.out hb); clear hb B5
      go_wp2_with fail
      refine (arg_lit w9 HG.out).mono ?_
      rintro e w7 ⟨rfl, hb⟩
      have B7 := Lib.hid (nextW B9.out hb); clear hb B9
      go_wp2_with fail
      refine (arg_lit w7 HG.out).mono ?_
      rintro e w8 ⟨rfl, hb⟩
      have B8 := Lib.hid (nextW B7.out hb); clear hb B7
      go_wp2_with fail
      go_ret
      exact ⟨rfl, B8.out⟩
  | false =>
    go_wp2_with fail
    refine (pops_lit w' HP.out).mono ?_
    rintro e w2 ⟨rfl, hb⟩
    have B2 := Lib.hid (nextW B1.out hb); clear hb B1
    go_wp2_with fail
    refine (pops_lit w2 HP.out).mono ?_
    rintro e w3 ⟨rfl, hb⟩
    have B3 := Lib.hid (nextW B2.out hb); clear hb B2
    go_wp2_with fail
    refine (pushes_lit w3 HQ2.out).mono ?_
    rintro e w4 ⟨rfl, hb⟩
    have B4 := Lib.hid (nextW B3.out hb); clear hb B3
    go_wp2_with fail
    refine (pushes_lit w4 HQ2.out).mono ?_
    rintro e w5 ⟨rfl, hb⟩
    have B5 := Lib.hid (nextW B4.out hb); clear hb B4
    go_wp2_with fail
    refine (ends_lit w5 HF.out).mono ?_
    rintro e w6 ⟨rfl, rfl⟩
    cases f with
    | false =>
      go_wp2_with fail
      refine (arg_lit w6 HG.out).mono ?_
      rintro e w7 ⟨rfl, hb⟩
      have B7 := Lib.hid (nextW B5.out hb); clear hb B5
      go_wp2_with fail
      refine (arg_lit w7 HG.out).mono ?_
      rintro e w8 ⟨rfl, hb⟩
      have B8 := Lib.hid (nextW B7.out hb); clear hb B7
      go_wp2_with fail
      go_ret
      exact ⟨rfl, B8.out⟩
    | true =>
      have q0 : q = 0 := by simpa using FQ.out
      subst q0
      go_wp2_with fail
      refine (pushes_lit w6 HQ2.out).mono ?_
      rintro e w9 ⟨rfl, hb⟩
      have B9 := Lib.hid (nextW B5.out hb); clear hb B5
      go_wp2_with fail
      refine (arg_lit w9 HG.out).mono ?_
      rintro e w7 ⟨rfl, hb⟩
      have B7 := Lib.hid (nextW B9.out hb); clear hb B9
      go_wp2_with fail
      refine (arg_lit w7 HG.out).mono ?_
      rintro e w8 ⟨rfl, hb⟩
      have B8 := Lib.hid (nextW B7.out hb); clear hb B7
      go_wp2_with fail
      go_ret
      exact ⟨rfl, B8.out⟩

/- The claim. -/

set_option maxRecDepth 100000 in
theorem lifted (os : Os) (started : os.Started) (H : Type) (enc : TypeId × Value → H) :
    ReturnsInHanded {} Tryd.checked os 4 .any (fun w args => (Rows.opsAllSpec.pre enc Tryd.prog Tryd.f4 [] false w args ∧ laidMetH Tryd.prog laidL w) ∧ sizedMet enc Tryd.prog Tryd.f4 (OpenSpec.ofChange Rows.opsAllSpec) false w args) (Rows.opsAllSpec.post enc Tryd.prog Tryd.f4 false true false false) := by
  refine returnsInHanded_of_change_and (C := Tryd.checked) (X := fun w _ => laidMetH Tryd.prog laidL w) (fun _ _ _ hh h => h.of_heap hh) ownKnobs started (by kernel_rfl) Tryd.func4
    (ChangeSpec.witness_shaped (enc := enc) (C := Tryd.checked) (os := os) (X := fun w _ => laidMetH Tryd.prog laidL w) false (World.doorLaid Tryd.prog 14 os) #[.int .u8 0, .int .u8 0] 8 rfl (World.shaped_of_RefB (by kernel_rfl) (by kernel_rfl)) (by kernel_rfl) (by kernel_rfl) (by kernel_rfl) (door_met os _)) ?_
  intro W base args ds gs before hval hW _ _ hL _
  have hN := names_of_laid hL
  refine law_contract rfl rfl (fun ds h => by match ds, h with | [d1, d2], _ => rfl) (by decide +kernel) hW ?_
  obtain ⟨p, q, hA0, _⟩ := hW
  have hA : DataW.TrodAll enc Tryd.prog W 0 (fun _ => true) true Tryd.f4.params.toList args.toList ds p := hA0
  have hval' : ∀ (j : Nat) t v, Tryd.f4.params[j]? = some t → args[j]? = some v → Value.okWide Tryd.prog W .any base t v := hval
  rw [Tryd.params4] at hA hval'
  obtain ⟨v0, vs0, d0, ds0, p0, q0, hargs, rfl, rfl, h0, r0⟩ := trodAll_cons hA
  obtain ⟨v1, vs1, d1, ds1, p1, q1, rfl, rfl, rfl, h1, r1⟩ := trodAll_cons r0
  obtain ⟨rfl, rfl, rfl⟩ := trodAll_nil r1
  obtain rfl : args = #[v0, v1] := by cases args; simp_all
  obtain ⟨z0, rfl, rfl, rfl, w0⟩ := open_int Tryd.underlying5 (hval' 0 _ v0 rfl rfl) h0
  have b0 : 0 ≤ z0 ∧ z0 ≤ 255 := by simpa [Lit.wf, IntKind.min, IntKind.max, IntKind.signed, IntKind.bits] using w0
  obtain ⟨a0, rfl⟩ : ∃ n : Nat, z0 = n := ⟨z0.toNat, by omega⟩
  obtain ⟨z1, rfl, rfl, rfl, w1⟩ := open_int Tryd.underlying5 (hval' 1 _ v1 rfl rfl) h1
  have b1 : 0 ≤ z1 ∧ z1 ≤ 255 := by simpa [Lit.wf, IntKind.min, IntKind.max, IntKind.signed, IntKind.bits] using w1
  obtain ⟨a1, rfl⟩ : ∃ n : Nat, z1 = n := ⟨z1.toNat, by omega⟩
  exact walk a0 a1 W (by omega) (by omega) hN

theorem proved : Rows.OpsAllSaid :=
  OpenClaim.holds_of_wide 4 Tryd.f4 rfl rfl rfl rfl rfl rfl rfl ⟨rfl, rfl, rfl, rfl, rfl⟩ rfl rfl rfl rfl rfl (by kernel_rfl) Tryd.func4 (by kernel_rfl)
    (of_decide_eq_true (by kernel_rfl)) (by unfold Func.isWrapper; first | (rw [if_pos (by decide +kernel)]; kernel_rfl) | (rw [if_neg (by decide +kernel)]; exact ⟨rfl, rfl⟩))
    (fun os started H enc _ => lifted os started H enc)

theorem card : Rows.OpsAllCardSaid :=
  Claim7.holds_tied_plain_at .later [] [.data] true _ false
    proved (fun _ h => by cases h) (by kernel_rfl) (fun _ h => by cases h) opsAll_row_tie rfl ⟨rfl, rfl⟩ (by kernel_rfl) rfl
    (fun f fn hf hfn => by
      obtain rfl : f = 4 := Option.some.inj ((show Tryd.prog.funcNamed "confidant/confidantlaw5.OpsAll" = some 4 by kernel_rfl).symm.trans hf) |>.symm
      obtain rfl : fn = Tryd.f4 := (Option.some.inj (Tryd.func4.symm.trans hfn)).symm
      exact ⟨by kernel_rfl, fun j t ht => by
        rw [Tryd.params4] at ht
        have hm : t ∈ [5, 5] := by simpa using Array.mem_of_getElem? ht
        have hall : ([5, 5].all fun u => !Tryd.prog.wantsStandIn u) = true := by kernel_rfl
        exact (show Tryd.prog.wantsStandIn t = false by simpa using List.all_eq_true.1 hall t hm)⟩)
    (by kernel_rfl)

end Go.Proofs.YtampbnkbmaagnaaDoor.opsAll
