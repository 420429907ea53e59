/- FutureOnce returns true for every input and changes nothing: only the first of any sequence of Keep and Break calls changes a future. No condition. -/
import Derived.Test.YtboelofkbhgmfaaKn13
import Derived.Test.YtboelofkbhgmfaaLaw
import Derived.Test.YtboelofkbhgmfaaBytV
import Derived.IntWalk
namespace Go.Proofs.Ytboelofkbhgmfaa.futureOnce
set_option maxRecDepth 100000
open Go.RowKit Go.ChangeShapes Go.WideShapes Go.ChangeAt

def xs (p : Nat) (v : Int) : FutX := if p = 0 then ⟨0, 1, v, 0⟩ else ⟨0, 2, 0, 1⟩
theorem xs_st (p : Nat) (v : Int) : ((xs p v).st == 0) = false := by unfold xs; split <;> rfl
theorem open_one (x : FutX) : openB [[x]] 0 = (x.st == 0) := rfl
theorem end_no {x : FutX} (h : (x.st == 0) = false) (f : FutX → FutX) : endL [[x]] 0 f = [[x]] := endL_no (by rw [open_one]; exact h) f
theorem end_yes (f : FutX → FutX) : endL [[zF]] 0 f = [[f zF]] := rfl

set_option maxRecDepth 100000 in
set_option maxHeartbeats 16000000 in
theorem walk (sv : Value) (l : List Int) (v : Int) (w : World) (hs : BytV w w.heap.size sv l) (hm : l.length ≤ maxLen) (hy : IsByt l) (hv : -2147483648 ≤ v ∧ v ≤ 2147483647) :
    Calls Try.prog 8 #[sv, .int .i32 v] w fun e w' => e = .returned (.bool true) ∧ Below w.heap.size w w' := by
  obtain ⟨A, c, rfl, hc, hL⟩ := hs
  have HL := Lib.hid hL; have HY := Lib.hid hy
  obtain ⟨n, hn⟩ : ∃ n, l.length = n := ⟨_, rfl⟩
  have HN := Lib.hid hn
  rw [hn] at hm hc ⊢
  unfold maxLen at hm
  clear hL hy hn
  by_cases h20 : 20 < n
  · have h0 : n ≠ 0 := by omega
    have z4 : decide ((20 : Int) < (n : Int)) = true := by simp; omega
    go_enter Try.func8, Try.ntmps8
    go_wp2_with fail
    refine (known13_any w).mono ?_
    rintro e w1 ⟨rfl, hb1⟩
    go_wp2_with fail
    go_ret
    exact ⟨rfl, hb1⟩
  by_cases h0 : n = 0
  · subst h0
    go_enter Try.func8, Try.ntmps8
    go_wp2_with fail
    refine (known13_any w).mono ?_
    rintro e w1 ⟨rfl, hb1⟩
    go_wp2_with fail
    go_ret
    exact ⟨rfl, hb1⟩
  have z2 : ((n : Int) == 0) = false := by simp; omega
  have z4 : decide ((20 : Int) < (n : Int)) = false := by simp; omega
  have hn20 : n ≤ 20 := by omega
  -- the first one's kind
  have hl0 : 0 < l.length := by rw [HN.out]; omega
  obtain ⟨b, off, rfl, hb, d0⟩ := lie_u8 HL.out hl0
  have hby := HY.out l[0] (List.getElem_mem hl0)
  obtain ⟨p, hp⟩ : ∃ p : Nat, p = (l[0]).toNat % 2 := ⟨_, rfl⟩
  have HP0 : Hid (∀ i (h : i < l.length), i = 0 → l[i] % 2 = (p : Int)) := Lib.hid fun i h e => by subst e; omega
  have hp0 : l[0] % 2 = (p : Int) := by omega
  have hp2 : p < 2 := by omega
  rw [Nat.add_zero] at d0
  generalize l[0] = y0 at *
  have D0 := Lib.hid d0
  have HPP := Lib.hid hp0
  have HVV := Lib.hid hv
  have HBY := Lib.hid hby
  clear d0 hp hp0 hl0 hby h20 hv
  have HQ : Hid (quotasZ [1] = [1]) := Lib.hid (by decide)
  go_enter Try.func8, Try.ntmps8
  go_wp2_with fail
  refine (known13_any w).mono ?_
  rintro e w1 ⟨rfl, hb1⟩
  have B1 := Lib.hid hb1; clear hb1
  obtain ⟨w2, hw2⟩ : ∃ w2, w2 = w1.alloc (.cells #[.int .i64 1] 3) := ⟨_, rfl⟩
  have B2 : Hid (Below w.heap.size w w2) := Lib.hid (by rw [hw2]; exact B1.out.alloc B1.out.size _)
  have HAN := Lib.hid (fuNew_any (.slice (some ⟨w1.heap.size, 0, none⟩) 1 1) [1] w2 (by rw [hw2]; exact numv_lit w1 [1]) (by simp))
  have HW2 := Lib.hid hw2
  clear hw2
  go_wp2_with fail
  rw [← HW2.out]
  with_reducible refine HAN.out.mono ?_
  rintro e w3 ⟨a, rfl, hA, hb3⟩
  rw [HQ.out] at hA
  have A3 : Hid (FuV w3 (fun b => w2.heap.size ≤ b ∧ b < w3.heap.size) a [1] [[]]) := Lib.hid hA
  have B3 := Lib.hid hb3
  clear hA hb3 HAN
  go_wp2_with fail
  have M1 := Lib.hid (fuMake_any A3.out 0 0 (by decide))
  refine M1.out.mono ?_
  clear M1
  rintro e w4 ⟨rfl, S4, h4, t4⟩
  rw [show mkId [1] ([[]] : List (List FutX)) 0 = 0 from rfl, show mkB [1] ([[]] : List (List FutX)) 0 = true from rfl]
  have H0 : Hid (∃ S, FuV w4 S a [1] [[zF]] ∧ (∀ i, S i → w2.heap.size ≤ i) ∧ Below w.heap.size w w4) := Lib.hid ⟨S4, h4, t4.low (fun i h => h.1) B3.out.size, (B2.out.trans (B3.out.mono B2.out.size)).trans ((t4.below (fun i h => h.1) B3.out.size).mono B2.out.size)⟩
  have HLW : Hid (w.heap.size ≤ w2.heap.size ∧ w2.heap.size ≤ w4.heap.size) := Lib.hid ⟨B2.out.size, Nat.le_trans B3.out.size t4.frm.size⟩
  clear h4 t4
  go_wp2_with fail
  clear z2 z4
  go_loopw [8] (fun i wr => ∃ k : Nat, ∃ S, k ≤ n ∧ i = .int .i64 k ∧ FuV wr S a [1] [[if k = 0 then zF else xs p v]] ∧ (∀ i, S i → w2.heap.size ≤ i) ∧ Below w.heap.size w wr ∧ w2.heap.size ≤ wr.heap.size) (fun i _ => n - (intOf i).toNat)
  case atStart => obtain ⟨S, h1, h2, h3⟩ := H0.out; exact ⟨0, S, Nat.zero_le _, rfl, h1, h2, h3, HLW.out.2⟩
  case round =>
    clear H0
    obtain ⟨k, S, hk, rfl, hA, hlow, hB, hsz⟩ := hrel
    have HA := Lib.hid hA; have HLOW := Lib.hid hlow; have HB := Lib.hid hB; have HSZ := Lib.hid hsz
    clear hA hlow hB
    by_cases hkn : k < n
    · have hkl : k < l.length := by rw [HN.out]; exact hkn
      obtain ⟨b', off', e0, hb', d0⟩ := lie_u8 HL.out hkl
      injection e0 with e0
      injection e0 with e0 e1
      subst e0 e1
      have d1 : wr.cell? ⟨b, off + k, none⟩ = some (.int .u8 l[k]) := by rw [HB.out.cell (p := ⟨b, off + k, none⟩) hb', d0]
      have hby := HY.out l[k] (List.getElem_mem hkl)
      have HK0 := Lib.hid (HP0.out k hkl)
      clear d0
      generalize l[k] = y at *
      have i1 : (0 : Int) ≤ (k : Int) ∧ (k : Int) < n := by omega
      obtain ⟨z, hz⟩ : ∃ z, IntKind.i32.wrap (v + (k : Int)) = z := ⟨_, rfl⟩
      have HZ : Hid (k = 0 → z = v) := Lib.hid fun e => by
        subst e; rw [← hz]; have := HVV.out; simp [IntKind.wrap, IntKind.bits, IntKind.signed]; omega
      have HKP := Lib.hid (fuKeep_any HA.out 0 z (by decide))
      have HBK := Lib.hid (fuBreak_any HA.out 0 ((k : Int) + 1) (by decide))
      unfold FuEn at HKP HBK
      by_cases hk0 : k = 0
      · have ez : ((k : Int) == 0) = true := by simp; omega
        have hz0 := HZ.out hk0
        have hyp := HK0.out hk0
        rw [if_pos hk0, open_one, end_yes] at HKP HBK
        rw [show (zF.st == 0) = true from rfl] at HKP HBK
        have HS : Hid (∀ k', k' = k + 1 → (if k' = 0 then zF else xs p v) = xs p v) := Lib.hid fun k' e => if_neg (by omega)
        have HK00 := Lib.hid hk0
        clear hk0
        rcases (by omega : p = 0 ∨ p = 1) with hpp | hpp
        · subst hpp
          have hy2 : y % 2 = 0 := hyp
          subst hz0
          clear hyp HBK
          go_wp2_with fail
          refine HKP.out.mono ?_
          rintro e w5 ⟨rfl, S5, h5, t5⟩
          have h5' := h5
          skip
          have HF := Lib.hid (show FuV w5 S5 a [1] [[if k + 1 = 0 then zF else xs 0 z]] from by rw [HS.out _ rfl]; exact h5')
          have HT : Hid ((∀ i, S5 i → w2.heap.size ≤ i) ∧ Below w.heap.size w w5 ∧ w2.heap.size ≤ w5.heap.size) := Lib.hid ⟨t5.low HLOW.out HSZ.out, HB.out.trans ((t5.below HLOW.out HSZ.out).mono HLW.out.1), Nat.le_trans HSZ.out t5.frm.size⟩
          clear h5 t5 h5'
          go_wp2_with fail
          go_roundw
          case rel => exact ⟨k + 1, S5, by omega, by go_num, HF.out, HT.out.1, HT.out.2.1, HT.out.2.2⟩
          case measure => simp [intOf]; omega
        · subst hpp
          have hy2 : y % 2 = 1 := hyp
          clear hyp HKP
          go_wp2_with fail
          refine HBK.out.mono ?_
          rintro e w5 ⟨rfl, S5, h5, t5⟩
          have h5' := h5
          rw [HK00.out] at h5'
          have HF := Lib.hid (show FuV w5 S5 a [1] [[if k + 1 = 0 then zF else xs 1 v]] from by rw [HS.out _ rfl]; exact h5')
          have HT : Hid ((∀ i, S5 i → w2.heap.size ≤ i) ∧ Below w.heap.size w w5 ∧ w2.heap.size ≤ w5.heap.size) := Lib.hid ⟨t5.low HLOW.out HSZ.out, HB.out.trans ((t5.below HLOW.out HSZ.out).mono HLW.out.1), Nat.le_trans HSZ.out t5.frm.size⟩
          clear h5 t5 h5'
          go_wp2_with fail
          go_roundw
          case rel => exact ⟨k + 1, S5, by omega, by go_num, HF.out, HT.out.1, HT.out.2.1, HT.out.2.2⟩
          case measure => simp [intOf]; omega
      · have ez : ((k : Int) == 0) = false := by simp; omega
        rw [if_neg hk0, open_one, xs_st, end_no (xs_st p v)] at HKP HBK
        have HS : Hid (∀ k', k' = k + 1 → (if k' = 0 then zF else xs p v) = xs p v) := Lib.hid fun k' e => if_neg (by omega)
        rcases (by omega : y % 2 = 0 ∨ y % 2 = 1) with hyp | hyp
        · have hy2 : y % 2 = 0 := hyp
          clear hyp HBK
          go_wp2_with fail
          refine HKP.out.mono ?_
          rintro e w5 ⟨rfl, S5, h5, t5⟩
          have h5' := h5
          skip
          have HF := Lib.hid (show FuV w5 S5 a [1] [[if k + 1 = 0 then zF else xs p v]] from by rw [HS.out _ rfl]; exact h5')
          have HT : Hid ((∀ i, S5 i → w2.heap.size ≤ i) ∧ Below w.heap.size w w5 ∧ w2.heap.size ≤ w5.heap.size) := Lib.hid ⟨t5.low HLOW.out HSZ.out, HB.out.trans ((t5.below HLOW.out HSZ.out).mono HLW.out.1), Nat.le_trans HSZ.out t5.frm.size⟩
          clear h5 t5 h5'
          go_wp2_with fail
          go_roundw
          case rel => exact ⟨k + 1, S5, by omega, by go_num, HF.out, HT.out.1, HT.out.2.1, HT.out.2.2⟩
          case measure => simp [intOf]; omega
        · have hy2 : y % 2 = 1 := hyp
          clear hyp HKP
          go_wp2_with fail
          refine HBK.out.mono ?_
          rintro e w5 ⟨rfl, S5, h5, t5⟩
          have h5' := h5
          skip
          have HF := Lib.hid (show FuV w5 S5 a [1] [[if k + 1 = 0 then zF else xs p v]] from by rw [HS.out _ rfl]; exact h5')
          have HT : Hid ((∀ i, S5 i → w2.heap.size ≤ i) ∧ Below w.heap.size w w5 ∧ w2.heap.size ≤ w5.heap.size) := Lib.hid ⟨t5.low HLOW.out HSZ.out, HB.out.trans ((t5.below HLOW.out HSZ.out).mono HLW.out.1), Nat.le_trans HSZ.out t5.frm.size⟩
          clear h5 t5 h5'
          go_wp2_with fail
          go_roundw
          case rel => exact ⟨k + 1, S5, by omega, by go_num, HF.out, HT.out.1, HT.out.2.1, HT.out.2.2⟩
          case measure => simp [intOf]; omega
    · obtain rfl : k = n := by omega
      have HG := Lib.hid (fuGet_any HA.out 0 (by decide))
      unfold GotF at HG
      rw [if_neg h0, show isIn [[xs p v]] 0 = true from rfl, show itmZ [[xs p v]] 0 zF = xs p v from rfl] at HG
      have d1 : wr.cell? ⟨b, off, none⟩ = some (.int .u8 y0) := by rw [HB.out.cell (p := ⟨b, off, none⟩) hb]; exact D0.out
      have hbr := World.block_lt_of_cell? wr _ d1
      have r1 : (v == v) = true := beq_self_eq_true _
      have n0 : 0 < k := by omega
      rcases (by omega : p = 0 ∨ p = 1) with rfl | rfl
      · rw [show futA (xs 0 v) = #[.int .i64 0, .int .i64 1, .int .i32 v, .int .i64 0] from rfl] at HG
        have hy2 : y0 % 2 = 0 := HPP.out
        have hb0 := HBY.out
        go_wp2_with fail
        refine HG.out.mono ?_
        rintro e w6 ⟨rfl, b6⟩
        have d6 : w6.cell? ⟨b, off, none⟩ = some (.int .u8 y0) := (b6.cell (p := ⟨b, off, none⟩) hbr).trans d1
        have hb6 := World.block_lt_of_cell? w6 _ d6
        have HF : Hid (Below w.heap.size w w6) := Lib.hid (HB.out.trans (b6.mono HB.out.size))
        have HF2 : Hid (w.heap.size ≤ w6.heap.size) := Lib.hid (Nat.le_trans HB.out.size b6.size)
        clear b6 d1
        go_wp2_with fail
        go_ret
        exact ⟨rfl, HF.out.alloc HF2.out _⟩
      · rw [show futA (xs 1 v) = #[.int .i64 0, .int .i64 2, .int .i32 0, .int .i64 1] from rfl] at HG
        have hy2 : y0 % 2 = 1 := HPP.out
        have hb0 := HBY.out
        go_wp2_with fail
        refine HG.out.mono ?_
        rintro e w6 ⟨rfl, b6⟩
        have d6 : w6.cell? ⟨b, off, none⟩ = some (.int .u8 y0) := (b6.cell (p := ⟨b, off, none⟩) hbr).trans d1
        have hb6 := World.block_lt_of_cell? w6 _ d6
        have HF : Hid (Below w.heap.size w w6) := Lib.hid (HB.out.trans (b6.mono HB.out.size))
        have HF2 : Hid (w.heap.size ≤ w6.heap.size) := Lib.hid (Nat.le_trans HB.out.size b6.size)
        clear b6 d1
        go_wp2_with fail
        go_ret
        exact ⟨rfl, HF.out.alloc HF2.out _⟩

/- The claim. -/

set_option maxRecDepth 100000 in
theorem lifted (os : Os) (started : os.Started) (H : Type) (enc : TypeId × Value → H) :
    ReturnsInHanded {} Try.checked os 8 .any (Rows.futureOnceSpec.pre6 enc Try.prog Try.f8 Rows.futureOnceRow.domain false) (Rows.futureOnceSpec.post enc Try.prog Try.f8 false true false false) := by
  refine returnsInHanded_of_change (C := Try.checked) ownKnobs started (by kernel_rfl) Try.func8
    (ChangeSpec.witness6 (enc := enc) (C := Try.checked) false ⟨#[], #[.slice none 0 0, .int .i32 0], []⟩ 8 (by kernel_rfl) (by kernel_rfl) (by kernel_rfl) (by kernel_rfl)) ?_
  intro W base args ds gs before hval hW _ _
  refine law_contract rfl rfl (fun ds h => by match ds, h with | [d1, d2], _ => rfl) (by decide +kernel) hW ?_
  obtain ⟨p, q, hA0, _⟩ := hW
  have hA : DataW.TrodAll enc Try.prog W 0 (fun _ => true) true Try.f8.params.toList args.toList ds p := hA0
  have hval' : ∀ (j : Nat) t v, Try.f8.params[j]? = some t → args[j]? = some v → Value.okWide Try.prog W .any base t v := hval
  rw [Try.params8] at hA hval'
  obtain ⟨v0, vs0, d0, ds0, p0, q0, hargs, rfl, rfl, h0, r0⟩ := trodAll_cons hA
  obtain ⟨v1, vs1, d1, ds1, p1, q1, rfl, rfl, rfl, h1, r1⟩ := trodAll_cons r0
  obtain ⟨rfl, rfl, rfl⟩ := trodAll_nil r1
  obtain rfl : args = #[v0, v1] := by cases args; simp_all
  obtain ⟨l0, h0, m0, y0⟩ := open_bytv (hval' 0 _ v0 rfl rfl) h0
  obtain ⟨a1, rfl, rfl, rfl, w1⟩ := open_int Try.underlying21 (hval' 1 _ v1 rfl rfl) h1
  have b1 : -2147483648 ≤ a1 ∧ a1 ≤ 2147483647 := by simpa [Lit.wf, IntKind.min, IntKind.max, IntKind.signed, IntKind.bits] using w1
  exact walk v0 l0 a1 W h0 m0 y0 b1

theorem proved : Rows.FutureOnceSaid :=
  OpenClaim.holds_of_wide 8 Try.f8 rfl rfl rfl rfl rfl rfl rfl ⟨rfl, rfl, rfl, rfl, rfl⟩ rfl rfl rfl rfl rfl (by kernel_rfl) Try.func8 (by kernel_rfl)
    (of_decide_eq_true (by kernel_rfl)) (by unfold Func.isWrapper; first | (rw [if_pos (by decide +kernel)]; kernel_rfl) | (rw [if_neg (by decide +kernel)]; exact ⟨rfl, rfl⟩))
    (fun os started H enc _ => lifted os started H enc)

end Go.Proofs.Ytboelofkbhgmfaa.futureOnce
