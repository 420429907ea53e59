/- OpsTell returns true for every input and changes nothing: all functions of package ops answer as the reference does, for any number and any name, and Find gives a name's number back. No condition but what the package's own text lays. -/
import Derived.Test.YtampbnkbmaagnaaDoorKnown5
import Derived.Test.YtampbnkbmaagnaaDoorTie
import Derived.Test.YtampbnkbmaagnaaDoorCards
import Derived.SevenTiedAt
namespace Go.Proofs.YtampbnkbmaagnaaDoor.opsTell
open Go.RowKit Go.ChangeShapes Go.WideShapes Go.ChangeAt

theorem refName_lit {op : Int} {s : ByteArray} (w : World) (h : nameA op = s) : Calls Tryd.prog 18 #[.int .i64 op] w fun e w' => e = .returned (.string s) ∧ Below w.heap.size w w' := by
  rw [← h]; exact refName_any op w
theorem refArg_lit {op z : Int} (w : World) (h : argZ op = z) : Calls Tryd.prog 10 #[.int .i64 op] w fun e w' => e = .returned (.int .i64 z) ∧ w' = w := by
  rw [← h]; exact refArg_any op w
theorem refPops_lit {op z : Int} (w : World) (h : popsZ op = z) : Calls Tryd.prog 12 #[.int .i64 op] w fun e w' => e = .returned (.int .i64 z) ∧ w' = w := by
  rw [← h]; exact refPops_any op w
theorem refPushes_lit {op z : Int} (w : World) (h : pushesZ op = z) : Calls Tryd.prog 14 #[.int .i64 op] w fun e w' => e = .returned (.int .i64 z) ∧ w' = w := by
  rw [← h]; exact refPushes_any op w
theorem refEnds_lit {op : Int} {b : Bool} (w : World) (h : endsB op = b) : Calls Tryd.prog 16 #[.int .i64 op] w fun e w' => e = .returned (.bool b) ∧ w' = w := by
  rw [← h]; exact refEnds_any op w
theorem nameA_short (z : Int) : (nameA z).size ≤ maxLen := by
  unfold nameA
  split
  · exact nm_short _
  · decide
/-- What Find says of a name that Name gave. -/
theorem find_name {z : Int} {b : Bool} (h : knownB z = b) : (findN (nameA z) != 0) = b ∧ (b = true → ((findN (nameA z) : Nat) : Int) = z) := by
  subst h
  cases hk : knownB z with
  | false =>
    have : nameA z = ⟨#[]⟩ := by unfold nameA; rw [hk]; rfl
    rw [this]
    exact ⟨by decide +kernel, fun h => absurd h (by decide)⟩
  | true =>
    have h2 := (knownB_iff z).1 hk
    obtain ⟨k, rfl⟩ : ∃ k : Nat, z = k := ⟨z.toNat, by omega⟩
    have : nameA (k : Int) = nm k := by unfold nameA; rw [hk]; rfl
    rw [this, findN_nm (by omega) (by omega)]
    exact ⟨by rw [bne_iff_ne]; omega, fun _ => rfl⟩

set_option maxRecDepth 100000 in
set_option maxHeartbeats 8000000 in
theorem walk (op : Int) (s : ByteArray) (w : World) (hs : s.size ≤ maxLen) (hN : NamesIn w) :
    Calls Tryd.prog 3 #[.int .i64 op, .string s] w fun e w' => e = .returned (.bool true) ∧ Below w.heap.size w w' := by
  have HN := Lib.hid hN; have HS := Lib.hid hs; clear hN hs
  go_enter Tryd.func3, Tryd.ntmps3
  go_wp2_with fail
  refine (known5_any w HN.out).mono ?_
  rintro e w1 ⟨rfl, hb1⟩
  have HN1 := Lib.hid (HN.out.below hb1); have B1 := Lib.hid hb1; clear hb1 HN
  rcases (by omega : (20 : Int) < s.size ∨ ¬ (20 : Int) < s.size) with hz | hz
  · go_wp2_with fail
    go_ret
    exact ⟨rfl, B1.out⟩
  · obtain ⟨q, hq⟩ : ∃ q, bits .and .i64 op 31 = q := ⟨_, rfl⟩
    go_wp2_with fail
    clear hq
    obtain ⟨w2, hw2⟩ : ∃ w2, w2 = w1.alloc (.cells #[.int .i64 op, .int .i64 q] 3) := ⟨_, rfl⟩
    have hb2 : Below w1.heap.size w1 w2 := by rw [hw2]; exact below_alloc _ _
    have hnew : w2.heap[w1.heap.size]? = some (.cells #[.int .i64 op, .int .i64 q] 3 (0, 0)) := by rw [hw2]; exact heap_alloc_new w1 _
    have hlt := (Array.getElem?_eq_some_iff.1 hnew).1
    have HC : Hid (∀ k : Nat, k < 2 → ∃ z, w2.cell? ⟨w1.heap.size, k, none⟩ = some (.int .i64 z)) := Lib.hid fun k hk => by
      rw [cell_blk hnew]
      rcases (by omega : k = 0 ∨ k = 1) with rfl | rfl
      · exact ⟨op, rfl⟩
      · exact ⟨q, rfl⟩
    have HN2 := Lib.hid (HN1.out.below hb2); have B2 := Lib.hid (nextW B1.out hb2)
    have HL := Lib.hid hlt
    rw [← hw2]
    clear hw2 hb2 hnew hlt HN1 B1
    go_loopw [23] (fun i wr => ∃ k : Nat, k ≤ 2 ∧ i = .int .i64 k ∧ NamesIn wr ∧ Below w2.heap.size w2 wr) (fun i _ => 2 - (intOf i).toNat)
    case atStart => exact ⟨0, Nat.zero_le _, rfl, HN2.out, Below.refl _ _⟩
    case round =>
      obtain ⟨k, hk, rfl, hnr, hbr⟩ := hrel
      have HNR := Lib.hid hnr; have BR := Lib.hid hbr; clear hnr hbr HN2
      by_cases hk2 : k < 2
      · obtain ⟨z, hz2⟩ := HC.out k hk2
        have hz3 := (BR.out.cell (p := ⟨w1.heap.size, k, none⟩) HL.out).trans hz2
        clear hz2
        obtain ⟨kb, hkb⟩ : ∃ x, knownB z = x := ⟨_, rfl⟩
        obtain ⟨ag, hag⟩ : ∃ x, argZ z = x := ⟨_, rfl⟩
        obtain ⟨po, hpo⟩ : ∃ x, popsZ z = x := ⟨_, rfl⟩
        obtain ⟨pu, hpu⟩ : ∃ x, pushesZ z = x := ⟨_, rfl⟩
        obtain ⟨en, hen⟩ : ∃ x, endsB z = x := ⟨_, rfl⟩
        have hsz := nameA_short z
        have hfn := find_name hkb
        obtain ⟨na, hna⟩ : ∃ x, nameA z = x := ⟨_, rfl⟩
        rw [hna] at hsz hfn
        have KB := Lib.hid hkb; have AG := Lib.hid hag; have PO := Lib.hid hpo; have PU := Lib.hid hpu; have EN := Lib.hid hen; have NA := Lib.hid hna; have SZ := Lib.hid hsz; have FN := Lib.hid hfn
        clear hkb hag hpo hpu hen hna hsz hfn
        have e1 : (kb != kb) = false := bne_self_eq_false _
        have e2 : (ag != ag) = false := bne_self_eq_false _
        have e3 : (po != po) = false := bne_self_eq_false _
        have e4 : (pu != pu) = false := bne_self_eq_false _
        have e5 : (en != en) = false := bne_self_eq_false _
        have e6 : (na.toList != na.toList) = false := bne_self_eq_false _
        go_wp2_with fail
        refine (known_lit wr KB.out).mono ?_
        rintro e w3 ⟨rfl, rfl⟩
        go_wp2_with fail
        refine (refKnown_lit w3 KB.out).mono ?_
        rintro e wr ⟨rfl, rfl⟩
        go_wp2_with fail
        refine (arg_lit wr AG.out).mono ?_
        rintro e w3 ⟨rfl, hb⟩
        have B3 := Lib.hid (nextW BR.out hb); have N3 := Lib.hid (HNR.out.below hb); clear hb BR HNR
        go_wp2_with fail
        refine (refArg_lit w3 AG.out).mono ?_
        rintro e w4 ⟨rfl, rfl⟩
        go_wp2_with fail
        refine (pops_lit w4 PO.out).mono ?_
        rintro e w5 ⟨rfl, hb⟩
        have B5 := Lib.hid (nextW B3.out hb); have N5 := Lib.hid (N3.out.below hb); clear hb B3 N3
        go_wp2_with fail
        refine (refPops_lit w5 PO.out).mono ?_
        rintro e w6 ⟨rfl, rfl⟩
        go_wp2_with fail
        refine (pushes_lit w6 PU.out).mono ?_
        rintro e w7 ⟨rfl, hb⟩
        have B7 := Lib.hid (nextW B5.out hb); have N7 := Lib.hid (N5.out.below hb); clear hb B5 N5
        go_wp2_with fail
        refine (refPushes_lit w7 PU.out).mono ?_
        rintro e w8 ⟨rfl, rfl⟩
        go_wp2_with fail
        refine (ends_lit w8 EN.out).mono ?_
        rintro e w9 ⟨rfl, rfl⟩
        go_wp2_with fail
        refine (refEnds_lit w9 EN.out).mono ?_
        rintro e wa ⟨rfl, rfl⟩
        go_wp2_with fail
        refine (name_lit wa N7.out NA.out).mono ?_
        rintro e wb ⟨rfl, rfl⟩
        go_wp2_with fail
        refine (refName_lit wb NA.out).mono ?_
        rintro e wc ⟨rfl, hb⟩
        have BC := Lib.hid (nextW B7.out hb); have NC := Lib.hid (N7.out.below hb); clear hb B7 N7
        go_wp2_with fail
        refine (name_lit wc NC.out NA.out).mono ?_
        rintro e wd ⟨rfl, rfl⟩
        clear e1 e2 e3 e4 e5 e6 hz3
        cases kb with
        | false =>
          have hf : (findN na != 0) = false := FN.out.1
          have h0 : findN na = 0 := by simpa using hf
          go_wp2_with fail
          refine (find_lit (n := 0) (b := false) wd SZ.out NC.out (by rw [h0]; rfl) hf).mono ?_
          rintro e we ⟨rfl, hb⟩
          have BE := Lib.hid (nextW BC.out hb); have NE := Lib.hid (NC.out.below hb); clear hb BC NC hf h0
          go_wp2_with fail
          refine (refKnown_lit we KB.out).mono ?_
          rintro e wf ⟨rfl, rfl⟩
          have e7 : ((k : Int) + 1) = ((k + 1 : Nat) : Int) := by omega
          have E7 := Lib.hid e7; clear e7
          go_wp2_with fail
          exact ⟨⟨k + 1, by omega, by rw [E7.out], NE.out, BE.out⟩, by simp only [intOf]; omega⟩
        | true =>
          have hf : (findN na != 0) = true := FN.out.1
          have h0 : ((findN na : Nat) : Int) = z := FN.out.2 rfl
          go_wp2_with fail
          refine (find_lit (n := z) (b := true) wd SZ.out NC.out h0 hf).mono ?_
          rintro e we ⟨rfl, hb⟩
          have BE := Lib.hid (nextW BC.out hb); have NE := Lib.hid (NC.out.below hb); clear hb BC NC hf h0
          go_wp2_with fail
          refine (refKnown_lit we KB.out).mono ?_
          rintro e wf ⟨rfl, rfl⟩
          have e7 : ((k : Int) + 1) = ((k + 1 : Nat) : Int) := by omega
          have e8 : (z != z) = false := bne_self_eq_false _
          have E7 := Lib.hid e7; clear e7
          go_wp2_with fail
          exact ⟨⟨k + 1, by omega, by rw [E7.out], NE.out, BE.out⟩, by simp only [intOf]; omega⟩
      · obtain rfl : k = 2 := by omega
        obtain ⟨n, hn⟩ : ∃ n : Int, ((findN s : Nat) : Int) = n := ⟨_, rfl⟩
        obtain ⟨b, hb⟩ : ∃ b, (findN s != 0) = b := ⟨_, rfl⟩
        have HF := Lib.hid (find_lit wr HS.out HNR.out hn hb)
        have HG : Hid (∀ w', Calls Tryd.prog 20 #[.string s] w' fun e w'' => e = .returned (.tuple #[.int .i64 n, .bool b]) ∧ Below w'.heap.size w' w'') := Lib.hid fun w' => by rw [← hn, ← hb]; exact refFind_any s w'
        clear hn hb
        have e1 : (n == n) = true := beq_self_eq_true _
        have e2 : (b == b) = true := beq_self_eq_true _
        go_wp2_with fail
        refine HF.out.mono ?_
        rintro e w3 ⟨rfl, hb⟩
        have B3 := Lib.hid (nextW BR.out hb); clear hb BR HF
        go_wp2_with fail
        refine (HG.out w3).mono ?_
        rintro e w4 ⟨rfl, hb⟩
        have B4 := Lib.hid (nextW B3.out hb); clear hb B3
        go_wp2_with fail
        go_ret
        exact ⟨rfl, nextW B2.out B4.out⟩


/- The claim. -/

set_option maxRecDepth 100000 in
theorem lifted (os : Os) (started : os.Started) (H : Type) (enc : TypeId × Value → H) :
    ReturnsInHanded {} Tryd.checked os 3 .any (fun w args => (Rows.opsTellSpec.pre enc Tryd.prog Tryd.f3 [] false w args ∧ laidMetH Tryd.prog laidL w) ∧ sizedMet enc Tryd.prog Tryd.f3 (OpenSpec.ofChange Rows.opsTellSpec) false w args) (Rows.opsTellSpec.post enc Tryd.prog Tryd.f3 false true false false) := by
  refine returnsInHanded_of_change_and (C := Tryd.checked) (X := fun w _ => laidMetH Tryd.prog laidL w) (fun _ _ _ hh h => h.of_heap hh) ownKnobs started (by kernel_rfl) Tryd.func3
    (ChangeSpec.witness_shaped (enc := enc) (C := Tryd.checked) (os := os) (X := fun w _ => laidMetH Tryd.prog laidL w) false (World.doorLaid Tryd.prog 14 os) #[.int .i64 0, .string ⟨#[]⟩] 8 rfl (World.shaped_of_RefB (by kernel_rfl) (by kernel_rfl)) (by kernel_rfl) (by kernel_rfl) (by kernel_rfl) (door_met os _)) ?_
  intro W base args ds gs before hval hW _ _ hL _
  have hN := names_of_laid hL
  refine law_contract rfl rfl (fun ds h => by match ds, h with | [d1, d2], _ => rfl) (by decide +kernel) hW ?_
  obtain ⟨p, q, hA0, _⟩ := hW
  have hA : DataW.TrodAll enc Tryd.prog W 0 (fun _ => true) true Tryd.f3.params.toList args.toList ds p := hA0
  have hval' : ∀ (j : Nat) t v, Tryd.f3.params[j]? = some t → args[j]? = some v → Value.okWide Tryd.prog W .any base t v := hval
  rw [Tryd.params3] at hA hval'
  obtain ⟨v0, vs0, d0, ds0, p0, q0, hargs, rfl, rfl, h0, r0⟩ := trodAll_cons hA
  obtain ⟨v1, vs1, d1, ds1, p1, q1, rfl, rfl, rfl, h1, r1⟩ := trodAll_cons r0
  obtain ⟨rfl, rfl, rfl⟩ := trodAll_nil r1
  obtain rfl : args = #[v0, v1] := by cases args; simp_all
  obtain ⟨a0, rfl, rfl, rfl, w0⟩ := open_int Tryd.underlying3 (hval' 0 _ v0 rfl rfl) h0
  have b0 : -9223372036854775808 ≤ a0 ∧ a0 ≤ 9223372036854775807 := by simpa [Lit.wf, IntKind.min, IntKind.max, IntKind.signed, IntKind.bits] using w0
  obtain ⟨a1, rfl, rfl, rfl, w1⟩ := Go.ChangeMaps.open_string Tryd.underlying9 (hval' 1 _ v1 rfl rfl) h1
  exact walk a0 a1 W w1 hN

theorem proved : Rows.OpsTellSaid :=
  OpenClaim.holds_of_wide 3 Tryd.f3 rfl rfl rfl rfl rfl rfl rfl ⟨rfl, rfl, rfl, rfl, rfl⟩ rfl rfl rfl rfl rfl (by kernel_rfl) Tryd.func3 (by kernel_rfl)
    (of_decide_eq_true (by kernel_rfl)) (by unfold Func.isWrapper; first | (rw [if_pos (by decide +kernel)]; kernel_rfl) | (rw [if_neg (by decide +kernel)]; exact ⟨rfl, rfl⟩))
    (fun os started H enc _ => lifted os started H enc)

theorem card : Rows.OpsTellCardSaid :=
  Claim7.holds_tied_plain_at .later [] [.data] true _ false
    proved (fun _ h => by cases h) (by kernel_rfl) (fun _ h => by cases h) opsTell_row_tie rfl ⟨rfl, rfl⟩ (by kernel_rfl) rfl
    (fun f fn hf hfn => by
      obtain rfl : f = 3 := Option.some.inj ((show Tryd.prog.funcNamed "confidant/confidantlaw5.OpsTell" = some 3 by kernel_rfl).symm.trans hf) |>.symm
      obtain rfl : fn = Tryd.f3 := (Option.some.inj (Tryd.func3.symm.trans hfn)).symm
      exact ⟨by kernel_rfl, fun j t ht => by
        rw [Tryd.params3] at ht
        have hm : t ∈ [3, 9] := by simpa using Array.mem_of_getElem? ht
        have hall : ([3, 9].all fun u => !Tryd.prog.wantsStandIn u) = true := by kernel_rfl
        exact (show Tryd.prog.wantsStandIn t = false by simpa using List.all_eq_true.1 hall t hm)⟩)
    (by kernel_rfl)

end Go.Proofs.YtampbnkbmaagnaaDoor.opsTell
