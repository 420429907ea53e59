/- OpsNames returns true for every input and changes nothing: Find answers by all letters of a name, whatever letter is put in whatever place, and not with a space behind it. No condition but what the package's own text lays. -/
import Derived.Test.YtampbnkbmaagnaaDoorKnown5
import Derived.Test.YtampbnkbmaagnaaDoorArgI
import Derived.Test.YtampbnkbmaagnaaDoorTie
import Derived.Test.YtampbnkbmaagnaaDoorCards
import Derived.SevenTiedAt
import Derived.Laws.IdiomStrings
import Derived.Laws.Concat
import Derived.Deep.QuietTactic
import Derived.BigQuiet
namespace Go.Proofs.YtampbnkbmaagnaaDoor.opsNames
open Go.RowKit Go.ChangeShapes Go.WideShapes Go.ChangeAt

theorem nameA_nat {i : Nat} (hi : 1 ≤ i) (hi2 : i < 27) : nameA i = nm i := by
  have : knownB i = true := (knownB_iff _).2 (by omega)
  unfold nameA; rw [this]; rfl
/-- A name has letters, and no name has a space behind it. -/
theorem nm_facts : ∀ i, i < 27 → 1 ≤ i → (0 < (nm i).size ∧ (nm i).size ≤ 7) ∧ findN ⟨((nm i).data.toList ++ [32]).toArray⟩ = 0 := by
  simp only [findN_eq]
  decide +kernel

/-- Block B of w begins with the bytes l. -/
def Bytes (w : World) (B : Nat) (l : List UInt8) : Prop := B < w.heap.size ∧ ∀ j (hj : j < l.length), w.cell? ⟨B, j, none⟩ = some (.int .u8 (l[j].toNat : Int))
section
variable {w w' : World} {B m : Nat} {l : List UInt8}
theorem Bytes.conv (h : Bytes w B l) (cap : Nat) : (convert 31 9 (.slice (some ⟨B, 0, none⟩) l.length cap)).run Tryd.prog w = .ok (.string ⟨l.toArray⟩) w :=
  run_convert_bytes_back w _ _ _ ⟨B, 0, none⟩ cap l Tryd.underlying31 Tryd.underlying5 Tryd.underlying9 fun j hj => by
    have e : (⟨B, 0, none⟩ : Addr).add j = ⟨B, j, none⟩ := by have h2 : (⟨B, 0, none⟩ : Addr).add j = ⟨B, 0 + j, none⟩ := by { unfold Addr.add; split <;> simp_all }; rwa [Nat.zero_add] at h2
    rw [e]; exact h.2 j hj
theorem Bytes.below (h : Bytes w B l) (hb : Below w.heap.size w w') : Bytes w' B l :=
  ⟨Nat.lt_of_lt_of_le h.1 hb.size, fun j hj => (hb.cell (p := ⟨B, j, none⟩) h.1).trans (h.2 j hj)⟩
theorem Bytes.drewN (h : Bytes w B l) (n : Nat) : Bytes (w.drewN n) B l := h.below (below_drewN (Below.refl _ _) n)
theorem bytes_new (w : World) (s : ByteArray) (cap t : Nat) (fr : Nat × Nat) : Bytes (w.alloc (.cells (bytesRow s cap) t fr)) w.heap.size s.data.toList := by
  refine ⟨(Array.getElem?_eq_some_iff.1 (heap_alloc_new w _)).1, fun j hj => ?_⟩
  rw [World.cell?_alloc_mark, bytesRow_at s cap j (by simpa using hj)]
  simp
theorem Bytes.set (h : Bytes w B l) (hm : m < l.length) (c : Nat) (hc : c ≤ 255) : Bytes (w.setCell ⟨B, m, none⟩ (.int .u8 c)) B (l.set m (UInt8.ofNat c)) := by
  refine ⟨by simpa [World.setCell] using h.1, fun j hj => ?_⟩
  rw [List.length_set] at hj
  by_cases e : m = j
  · subst e
    rw [World.cell?_setCell_same _ _ _ (h.2 m hm)]
    have : (UInt8.ofNat c).toNat = c := by simp; omega
    simp [this]
  · rw [World.cell?_setCell_other _ _ _ _ (by intro x; injection x with _ x; exact e x), h.2 j hj]
    simp [e]
end
theorem findN_own {s : ByteArray} {b : Bool} (h : (findN s != 0) = b) (hb : b = true) : nameA (findN s : Nat) = s := by
  subst hb
  have h0 : findN s ≠ 0 := by simpa using h
  obtain ⟨h1, h2, h3⟩ := nm_findN h0
  rw [nameA_nat h1 (by omega), h3]

set_option maxRecDepth 100000 in
set_option maxHeartbeats 8000000 in
theorem walk (a at' : Nat) (c : Nat) (w : World) (ha : a ≤ 255) (hat : at' ≤ 255) (hc : c ≤ 255) (hN : NamesIn w) :
    Calls Tryd.prog 5 #[.int .u8 a, .int .u8 at', .int .u8 c] w fun e w' => e = .returned (.bool true) ∧ Below w.heap.size w w' := by
  obtain ⟨i, hi⟩ : ∃ i : Nat, i = a % 26 + 1 := ⟨_, rfl⟩
  have ei : ((a : Int) % 26) + 1 = (i : Int) := by omega
  have i1 : 1 ≤ i := by omega
  have i2 : i < 27 := by omega
  obtain ⟨⟨l1, l7⟩, hsp⟩ := nm_facts i i2 i1
  have hna := nameA_nat i1 i2
  obtain ⟨S, hS⟩ : ∃ S, nm i = S := ⟨_, rfl⟩
  rw [hS] at l1 l7 hsp hna
  have NA := Lib.hid hna; have SP := Lib.hid hsp
  have HN := Lib.hid hN
  clear hN hi hS hna hsp
  go_enter Tryd.func5, Tryd.ntmps5
  go_wp2_with fail
  refine (known5_any w HN.out).mono ?_
  rintro e w1 ⟨rfl, hb1⟩
  have HN1 := Lib.hid (HN.out.below hb1); have B1 := Lib.hid hb1; clear hb1 HN
  go_wp2_with fail
  clear ei
  refine (name_lit w1 HN1.out NA.out).mono ?_
  rintro e w' ⟨rfl, rfl⟩
  have cv := run_bytes_of_string (P := Tryd.prog) w' 9 31 5 S Tryd.underlying9 Tryd.underlying31 Tryd.underlying5
  obtain ⟨cap, hcap⟩ : ∃ cap, grownCap w' S.size 0 5 = cap := ⟨_, rfl⟩
  obtain ⟨w2, hw2⟩ : ∃ w2, w'.drew.alloc (.cells (bytesRow S cap) 5 ((bytesRow S cap).size, (bytesRow S cap).size + 1)) = w2 := ⟨_, rfl⟩
  obtain ⟨m, hm⟩ : ∃ m, at' % S.size = m := ⟨_, rfl⟩
  have hm2 : m < S.size := by rw [← hm]; exact Nat.mod_lt _ l1
  have hw3 : Bytes w2 w'.heap.size S.data.toList := by rw [← hw2]; exact bytes_new w'.drew S cap _ _
  have hlen : S.data.toList.length = S.size := by rw [Array.length_toList]; rfl
  obtain ⟨u, hcell⟩ : ∃ u, w2.cell? ⟨w'.heap.size, m, none⟩ = some u := ⟨_, hw3.2 m (by omega)⟩
  have hfr : w2.frozen? ⟨w'.heap.size, m, none⟩ = false := by
    rw [← hw2]
    refine (World.frozen?_alloc_mark w'.drew _ _ _ _ _).trans ?_
    have hbs : (bytesRow S cap).size = S.size + (cap - S.size) := by unfold bytesRow; rw [Array.size_append, Array.size_map, Array.size_replicate]; rfl
    have : ¬ (bytesRow S cap).size ≤ m := by omega
    simp [this]
  have hb2 : Below w'.heap.size w' w2 := by rw [← hw2]; exact (Below.refl _ _).drew.alloc (Nat.le_refl _) _
  obtain ⟨w3, hw4⟩ : ∃ w3, w2.setCell ⟨w'.heap.size, m, none⟩ (.int .u8 c) = w3 := ⟨_, rfl⟩
  have hB3 : Below w'.heap.size w' w3 := by rw [← hw4]; exact hb2.setCell (p := ⟨w'.heap.size, m, none⟩) (Nat.le_refl _) _
  have hby := hw3.set (m := m) (by omega) c hc
  obtain ⟨l, hl⟩ : ∃ l, S.data.toList.set m (UInt8.ofNat c) = l := ⟨_, rfl⟩
  have hll : l.length = S.size := by rw [← hl, List.length_set]; exact hlen
  rw [hw4, hl] at hby
  rw [hcap, hw2] at cv
  obtain ⟨T, hT⟩ : ∃ T : ByteArray, ⟨l.toArray⟩ = T := ⟨_, rfl⟩
  have hTs : T.size ≤ maxLen := by rw [← hT]; simp [ByteArray.size]; unfold maxLen; omega
  have HCV : Hid (∀ wr, Bytes wr w'.heap.size l → (convert 31 9 (.slice (some ⟨w'.heap.size, 0, none⟩) S.size cap)).run Tryd.prog wr = .ok (.string T) wr) := Lib.hid fun wr h => by
    rw [← hll, ← hT]; exact h.conv cap
  obtain ⟨E, hE⟩ : ∃ E : ByteArray, S ++ ⟨#[32]⟩ = E := ⟨_, rfl⟩
  have hE2 : findN E = 0 := by
    have : E = ⟨(S.data.toList ++ [32]).toArray⟩ := by
      rw [← hE]; refine bytes_inj ?_
      simp
    rw [this]; exact SP.out
  have hEs : E.size ≤ maxLen := by rw [← hE, ByteArray.size_append]; have : ByteArray.size ⟨#[32]⟩ = 1 := rfl; unfold maxLen; omega
  have FE : Hid (∀ wr, NamesIn wr → Calls Tryd.prog 19 #[.string E] wr fun e w' => e = .returned (.tuple #[.int .i64 0, .bool false]) ∧ Below wr.heap.size wr w') := Lib.hid fun wr hN => find_lit wr hEs hN (by rw [hE2]; rfl) (by rw [hE2]; rfl)
  obtain ⟨n, hn⟩ : ∃ n : Int, ((findN T : Nat) : Int) = n := ⟨_, rfl⟩
  obtain ⟨b, hb⟩ : ∃ b, (findN T != 0) = b := ⟨_, rfl⟩
  have FT : Hid (∀ wr, NamesIn wr → Calls Tryd.prog 19 #[.string T] wr fun e w' => e = .returned (.tuple #[.int .i64 n, .bool b]) ∧ Below wr.heap.size wr w') := Lib.hid fun wr hN => find_lit wr hTs hN hn hb
  have RT : Hid (∀ w', Calls Tryd.prog 20 #[.string T] w' fun e w'' => e = .returned (.tuple #[.int .i64 n, .bool b]) ∧ Below w'.heap.size w' w'') := Lib.hid fun w' => by rw [← hn, ← hb]; exact refFind_any T w'
  have NT : Hid (b = true → nameA n = T) := Lib.hid fun h => by rw [← hn]; exact findN_own hb h
  have l0 : ¬ ((S.size : Int) = 0) := by omega
  have d0 : ((S.size : Int) == 0) = false := by rw [beq_eq_false_iff_ne]; exact l0
  have hl1 : (0 : Int) < S.size := by omega
  have HE1 := Lib.hid hE
  have HN3 := Lib.hid (HN1.out.below hB3); have B3 := Lib.hid (nextW B1.out hB3); have BY := Lib.hid hby
  have hcv := HCV.out w3 hby
  clear hcap hw2 hw3 hlen hb2 hB3 hby hl hll hT hTs hE hE2 hEs hn hb HN1 B1 SP NA
  go_wp2_with fail
  refine (FT.out w3 HN3.out).mono ?_
  rintro e w4 ⟨rfl, hb⟩
  have HN4 := Lib.hid (HN3.out.below hb); have B4 := Lib.hid (nextW B3.out hb); have BY4 := Lib.hid (BY.out.below hb)
  clear hb hcv HN3 B3 BY cv hcell hfr hw4
  have hcv := HCV.out w4 BY4.out
  go_wp2_with fail
  refine (RT.out w4).mono ?_
  rintro e w5 ⟨rfl, hb⟩
  have HN5 := Lib.hid (HN4.out.below hb); have B5 := Lib.hid (nextW B4.out hb); have BY5 := Lib.hid (BY4.out.below hb)
  clear hb hcv HN4 B4 BY4
  have hE := HE1.out
  go_wp2_with fail
  refine (FE.out w5 HN5.out).mono ?_
  rintro e w6 ⟨rfl, hb⟩
  have HN6 := Lib.hid (HN5.out.below hb); have B6 := Lib.hid (nextW B5.out hb); have BY6 := Lib.hid (BY5.out.below hb)
  clear hb hE HN5 B5 BY5
  have e1 : (n == n) = true := beq_self_eq_true _
  have e2 : (b == b) = true := beq_self_eq_true _
  cases b with
  | false =>
    go_wp2_with fail
    go_quiet (fail)
    go_wp2_with fail
    go_ret
    exact ⟨rfl, below_drewN B6.out _⟩
  | true =>
    have NT2 := NT.out rfl
    have NTW : Hid (∀ k, Calls Tryd.prog 17 #[.int .i64 n] (w6.drewN k) fun e w' => e = .returned (.string T) ∧ w' = w6.drewN k) := Lib.hid fun k => name_lit _ (HN6.out.below (below_drewN (Below.refl _ _) k)) NT2
    have hcv := fun k => HCV.out (w6.drewN k) (BY6.out.drewN k)
    have e3 : (T.toList == T.toList) = true := beq_self_eq_true _
    clear NT2
    go_wp2_with fail
    go_quiet (first | (go_at_call 17; refine Calls.quiet_of_same (NTW.out _)) | fail)
    go_wp2_with fail
    go_ret
    exact ⟨rfl, below_drewN B6.out _⟩

/- The claim. -/

set_option maxRecDepth 100000 in
theorem lifted (os : Os) (started : os.Started) (H : Type) (enc : TypeId × Value → H) :
    ReturnsInHanded {} Tryd.checked os 5 .any (fun w args => (Rows.opsNamesSpec.pre enc Tryd.prog Tryd.f5 [] false w args ∧ laidMetH Tryd.prog laidL w) ∧ sizedMet enc Tryd.prog Tryd.f5 (OpenSpec.ofChange Rows.opsNamesSpec) false w args) (Rows.opsNamesSpec.post enc Tryd.prog Tryd.f5 false true false false) := by
  refine returnsInHanded_of_change_and (C := Tryd.checked) (X := fun w _ => laidMetH Tryd.prog laidL w) (fun _ _ _ hh h => h.of_heap hh) ownKnobs started (by kernel_rfl) Tryd.func5
    (ChangeSpec.witness_shaped (enc := enc) (C := Tryd.checked) (os := os) (X := fun w _ => laidMetH Tryd.prog laidL w) false (World.doorLaid Tryd.prog 14 os) #[.int .u8 0, .int .u8 0, .int .u8 0] 8 rfl (World.shaped_of_RefB (by kernel_rfl) (by kernel_rfl)) (by kernel_rfl) (by kernel_rfl) (by kernel_rfl) (door_met os _)) ?_
  intro W base args ds gs before hval hW _ _ hL _
  have hN := names_of_laid hL
  refine law_contract rfl rfl (fun ds h => by match ds, h with | [d1, d2, d3], _ => rfl) (by decide +kernel) hW ?_
  obtain ⟨p, q, hA0, _⟩ := hW
  have hA : DataW.TrodAll enc Tryd.prog W 0 (fun _ => true) true Tryd.f5.params.toList args.toList ds p := hA0
  have hval' : ∀ (j : Nat) t v, Tryd.f5.params[j]? = some t → args[j]? = some v → Value.okWide Tryd.prog W .any base t v := hval
  rw [Tryd.params5] at hA hval'
  obtain ⟨v0, vs0, d0, ds0, p0, q0, hargs, rfl, rfl, h0, r0⟩ := trodAll_cons hA
  obtain ⟨v1, vs1, d1, ds1, p1, q1, rfl, rfl, rfl, h1, r1⟩ := trodAll_cons r0
  obtain ⟨v2, vs2, d2, ds2, p2, q2, rfl, rfl, rfl, h2, r2⟩ := trodAll_cons r1
  obtain ⟨rfl, rfl, rfl⟩ := trodAll_nil r2
  obtain rfl : args = #[v0, v1, v2] := by cases args; simp_all
  obtain ⟨z0, rfl, rfl, rfl, w0⟩ := open_int Tryd.underlying5 (hval' 0 _ v0 rfl rfl) h0
  have b0 : 0 ≤ z0 ∧ z0 ≤ 255 := by simpa [Lit.wf, IntKind.min, IntKind.max, IntKind.signed, IntKind.bits] using w0
  obtain ⟨a0, rfl⟩ : ∃ n : Nat, z0 = n := ⟨z0.toNat, by omega⟩
  obtain ⟨z1, rfl, rfl, rfl, w1⟩ := open_int Tryd.underlying5 (hval' 1 _ v1 rfl rfl) h1
  have b1 : 0 ≤ z1 ∧ z1 ≤ 255 := by simpa [Lit.wf, IntKind.min, IntKind.max, IntKind.signed, IntKind.bits] using w1
  obtain ⟨a1, rfl⟩ : ∃ n : Nat, z1 = n := ⟨z1.toNat, by omega⟩
  obtain ⟨z2, rfl, rfl, rfl, w2⟩ := open_int Tryd.underlying5 (hval' 2 _ v2 rfl rfl) h2
  have b2 : 0 ≤ z2 ∧ z2 ≤ 255 := by simpa [Lit.wf, IntKind.min, IntKind.max, IntKind.signed, IntKind.bits] using w2
  obtain ⟨a2, rfl⟩ : ∃ n : Nat, z2 = n := ⟨z2.toNat, by omega⟩
  exact walk a0 a1 a2 W (by omega) (by omega) (by omega) hN

theorem proved : Rows.OpsNamesSaid :=
  OpenClaim.holds_of_wide 5 Tryd.f5 rfl rfl rfl rfl rfl rfl rfl ⟨rfl, rfl, rfl, rfl, rfl⟩ rfl rfl rfl rfl rfl (by kernel_rfl) Tryd.func5 (by kernel_rfl)
    (of_decide_eq_true (by kernel_rfl)) (by unfold Func.isWrapper; first | (rw [if_pos (by decide +kernel)]; kernel_rfl) | (rw [if_neg (by decide +kernel)]; exact ⟨rfl, rfl⟩))
    (fun os started H enc _ => lifted os started H enc)

theorem card : Rows.OpsNamesCardSaid :=
  Claim7.holds_tied_plain_at .later [] [.data] true _ false
    proved (fun _ h => by cases h) (by kernel_rfl) (fun _ h => by cases h) opsNames_row_tie rfl ⟨rfl, rfl⟩ (by kernel_rfl) rfl
    (fun f fn hf hfn => by
      obtain rfl : f = 5 := Option.some.inj ((show Tryd.prog.funcNamed "confidant/confidantlaw5.OpsNames" = some 5 by kernel_rfl).symm.trans hf) |>.symm
      obtain rfl : fn = Tryd.f5 := (Option.some.inj (Tryd.func5.symm.trans hfn)).symm
      exact ⟨by kernel_rfl, fun j t ht => by
        rw [Tryd.params5] at ht
        have hm : t ∈ [5, 5, 5] := by simpa using Array.mem_of_getElem? ht
        have hall : ([5, 5, 5].all fun u => !Tryd.prog.wantsStandIn u) = true := by kernel_rfl
        exact (show Tryd.prog.wantsStandIn t = false by simpa using List.all_eq_true.1 hall t hm)⟩)
    (by kernel_rfl)

end Go.Proofs.YtampbnkbmaagnaaDoor.opsNames
