/- FutureApart returns true for every input and changes nothing: keeping and breaking one future does not affect the others. No condition. -/
import Derived.Test.YtboelofkbhgmfaaKn13
import Derived.Test.YtboelofkbhgmfaaLaw
import Derived.Test.YtboelofkbhgmfaaBytV
import Derived.IntWalk
import Derived.Deep.QuietTactic
import Derived.BigQuiet
import Derived.Deep.CutRange
import Derived.Deep.DeepCutAuto
namespace Go.Proofs.Ytboelofkbhgmfaa.futureApart
set_option maxRecDepth 100000
open Go.RowKit Go.ChangeShapes Go.WideShapes Go.ChangeAt

theorem made_futs (n : Nat) : madeCells #[.int .i64 0, .int .i64 0, .int .i32 0, .int .i64 0] (n * 4) = (rowE futA (List.replicate n zF)).toArray := by
  apply Array.ext'
  apply List.ext_getElem?
  intro i
  by_cases hi : i < n * 4
  · have hx : (List.replicate n zF)[i / 4]? = some zF := by rw [List.getElem?_replicate, if_pos (by omega)]
    have hj : (futA zF)[i % 4]? = some ((futA zF)[i % 4]'(by rw [futA_size]; omega)) := Array.getElem?_eq_getElem _
    have h1 := rowE_get futA_size hx hj
    rw [show i / 4 * 4 + i % 4 = i from by omega] at h1
    have h2 : (madeCells #[.int .i64 0, .int .i64 0, .int .i32 0, .int .i64 0] (n * 4)).toList[i]? = some ((#[.int .i64 0, .int .i64 0, .int .i32 0, .int .i64 0] : Array Value)[i % 4]!) := by simp [madeCells, hi]
    rw [h2, List.toList_toArray, h1]
    rcases (by omega : i % 4 = 0 ∨ i % 4 = 1 ∨ i % 4 = 2 ∨ i % 4 = 3) with e | e | e | e <;> simp [e, futA, zF]
  · rw [List.getElem?_eq_none (by rw [Array.length_toList, size_madeCells]; omega), List.getElem?_eq_none (by rw [List.toList_toArray, rowE_length futA_size]; simp; omega)]
theorem run_make_futs (w : World) (y : Nat) (hy : y ≤ 1000) :
    (Instr.makeSlice 75 (.int .i64 (y : Int)) (.int .i64 (y : Int))).run Try.prog w = .ok (.slice (some ⟨w.heap.size, 0, none⟩) y y) (w.alloc (.cells (rowE futA (List.replicate y zF)).toArray 64)) := by
  obtain ⟨i0, hi, hz0, hz1, hz2⟩ := info_parts inf_F
  have h := run_make (w := w) (P := Try.prog) 75 64 i0 _ Try.underlying75 hi hz0 .i64 .i64 (y : Int) (y : Int) (by omega) (Int.le_refl _) (by rw [hz2]; omega) (by omega)
  rw [h, hz1, Int.toNat_natCast]
  simp only [Value.cells, made_futs]
theorem mk_one (L : List FutX) (hl : L.length < 20) (x : FutX) : mkB [20] [L] 0 = true ∧ mkL [20] [L] 0 x = [L ++ [x]] := by
  have h0 : mkB [20] [L] 0 = true := by simp [mkB, cntZ, quoZ]; omega
  exact ⟨h0, by unfold mkL; rw [h0]; simp⟩
theorem one_at (L : List FutX) (hl : L.length ≤ 20) {j : Nat} (hj : j < L.length) : isIn [L] (j : Int) = true ∧ itmZ [L] (j : Int) zF = L[j] ∧ (∀ f, setZ [L] (j : Int) f = [L.set j (f L[j])]) := by
  have h0 : (0 : Int) ≤ (j : Int) := by omega
  have e1 : labelZ (j : Int) = ((0 : Nat) : Int) := by rw [labelZ_pos h0]; omega
  have e2 : numberZ (j : Int) = (j : Int) := by rw [numberZ_pos h0]; omega
  have hv : validB (j : Int) ([L] : List (List FutX)).length = true := by
    unfold validB; rw [e1, decide_eq_true h0]; rfl
  rcases isIn_cases [L] (j : Int) (by simp) with ⟨h, _⟩ | ⟨k, h1, hk, j', h2, _, _, h3⟩
  · rw [hv] at h; cases h
  · obtain rfl : k = 0 := by rw [e1] at h1; omega
    obtain rfl : j' = j := by rw [e2] at h2; omega
    rcases h3 with ⟨h4, _⟩ | ⟨h4, h5, h6, h7⟩
    · have : L.length ≤ j' := h4
      omega
    · exact ⟨h5, h6 zF, h7⟩
theorem open_at (L : List FutX) (hl : L.length ≤ 20) {j : Nat} (hj : j < L.length) : openB [L] (j : Int) = (L[j].st == 0) := by
  obtain ⟨h1, h2, _⟩ := one_at L hl hj
  unfold openB; rw [h1, h2]; rfl

/-- The futures L of label 0, and the list M that the law keeps beside them. -/
structure ApK (w wr : World) (a wb : Nat) (L M : List FutX) : Prop where
  fu : ∃ S, FuV wr S a [20] [L] ∧ ∀ i, S i → w.heap.size ≤ i ∧ i ≠ wb
  bx : wr.heap[wb]? = some (.cells (rowE futA M).toArray 64 (0, 0))
  bl : Below w.heap.size w wr
  lo : w.heap.size ≤ wb
theorem ApK.below {w wr w' : World} {a wb : Nat} {L M : List FutX} (h : ApK w wr a wb L M) (hb : Below wr.heap.size wr w') : ApK w w' a wb L M := by
  obtain ⟨S, h1, h2⟩ := h.fu
  exact ⟨⟨S, h1.below hb, h2⟩, (hb.block _ (Array.getElem?_eq_some_iff.1 h.bx).1).trans h.bx, h.bl.trans (hb.mono h.bl.size), h.lo⟩
theorem ApK.step {w wr w' : World} {a wb : Nat} {L L' M : List FutX} {S S' : Nat → Prop} (h : ApK w wr a wb L M) (hlo : ∀ i, S i → w.heap.size ≤ i ∧ i ≠ wb) (h1 : FuV w' S' a [20] [L']) (hs : Stp S S' wr w') : ApK w w' a wb L' M := by
  have hb : wb < wr.heap.size := (Array.getElem?_eq_some_iff.1 h.bx).1
  exact ⟨⟨S', h1, fun i hi => ⟨hs.low (fun i hi => (hlo i hi).1) h.bl.size i hi, fun e => hs.apart (T := fun j => j = wb) (fun i e => by omega) (fun i hi e => (hlo i hi).2 e) i hi e⟩⟩,
    (hs.frm.block wb hb (fun e => (hlo wb e).2 rfl)).trans h.bx, h.bl.trans (hs.below (fun i hi => (hlo i hi).1) h.bl.size), h.lo⟩
theorem ApK.put {w wr : World} {a wb : Nat} {L M : List FutX} (h : ApK w wr a wb L M) {j i : Nat} (hj : j < M.length) (hi : i < 4) (u : Value) (x' : FutX) (hx : futA x' = (futA M[j]).setIfInBounds i u) : ApK w (wr.setCell ⟨wb, j * 4 + i, none⟩ u) a wb L (M.set j x') := by
  obtain ⟨S, h1, h2⟩ := h.fu
  refine ⟨⟨S, h1.keep (T := One wb) (Frm.setCell (S := One wb) (p := ⟨wb, j * 4 + i, none⟩) (show wb = wb from rfl) u) (fun k hk e => (h2 k hk).2 e), h2⟩, ?_, h.bl.setCell h.lo _, h.lo⟩
  rw [set_blk h.bx]
  rw [← rowE_set futA_size (List.getElem?_eq_getElem hj) hi hx]
  simp
theorem ApK.cell {w wr : World} {a wb : Nat} {L M : List FutX} (h : ApK w wr a wb L M) {j i : Nat} (hj : j < M.length) {u : Value} (hu : (futA M[j])[i]? = some u) : wr.cell? ⟨wb, j * 4 + i, none⟩ = some u := by
  rw [cell_blk h.bx]
  have := rowE_get futA_size (List.getElem?_eq_getElem hj) hu
  simpa using this
theorem ApK.free {w wr : World} {a wb : Nat} {L M : List FutX} (h : ApK w wr a wb L M) (i : Nat) : wr.frozen? ⟨wb, i, none⟩ = false := frozen_blk h.bx i
/-- The first i futures, as they were made. -/
def mkF (i : Nat) : List FutX := (List.range i).map fun n : Nat => ⟨(n : Int), 0, 0, 0⟩
theorem mkF_len (i : Nat) : (mkF i).length = i := by simp [mkF]
theorem mkF_snoc (i : Nat) : mkF (i + 1) = mkF i ++ [⟨(i : Int), 0, 0, 0⟩] := by simp [mkF, List.range_succ]
theorem mkM_set (i k : Nat) (h : i < k) : (mkF i ++ List.replicate (k - i) zF).set i ⟨(i : Int), 0, 0, 0⟩ = mkF (i + 1) ++ List.replicate (k - (i + 1)) zF := by
  obtain ⟨m, rfl⟩ : ∃ m, k = i + 1 + m := ⟨k - (i + 1), by omega⟩
  rw [show i + 1 + m - i = m + 1 from by omega, show i + 1 + m - (i + 1) = m from by omega, List.replicate_succ, mkF_snoc, List.set_append_right _ _ (by rw [mkF_len]; exact Nat.le_refl _), mkF_len, Nat.sub_self, List.set_cons_zero, List.append_assoc]
  rfl
theorem mkM_at (i k : Nat) (h : i < k) : ∃ h' : i < (mkF i ++ List.replicate (k - i) zF).length, (mkF i ++ List.replicate (k - i) zF)[i] = zF := by
  refine ⟨by rw [List.length_append, mkF_len, List.length_replicate]; omega, ?_⟩
  rw [List.getElem_append_right (by rw [mkF_len]; exact Nat.le_refl _)]
  simp

set_option maxRecDepth 100000 in
set_option maxHeartbeats 16000000 in
theorem walk (n : Nat) (sv : Value) (l : List Int) (w : World) (hn : n ≤ 255) (hs : BytV w w.heap.size sv l) (hm : l.length ≤ maxLen) (hy : IsByt l) :
    Calls Try.prog 10 #[.int .u8 n, sv] w fun e w' => e = .returned (.bool true) ∧ Below w.heap.size w w' := by
  obtain ⟨A, c, rfl, hc, hL⟩ := hs
  have HL := Lib.hid hL; have HY := Lib.hid hy
  obtain ⟨N, hN⟩ : ∃ N, l.length = N := ⟨_, rfl⟩
  have HN := Lib.hid hN
  rw [hN] at hm hc ⊢
  unfold maxLen at hm
  clear hL hy hN
  by_cases h40 : 40 < N
  · have z4 : decide ((40 : Int) < (N : Int)) = true := by simp; omega
    go_enter Try.func10, Try.ntmps10
    go_wp2_with fail
    refine (known13_any w).mono ?_
    rintro e w1 ⟨rfl, hb1⟩
    go_wp2_with fail
    go_ret
    exact ⟨rfl, hb1⟩
  have z4 : decide ((40 : Int) < (N : Int)) = false := by simp; omega
  have hN40 : N ≤ 40 := by omega
  obtain ⟨k, hk⟩ : ∃ k : Nat, k = n % 10 + 1 := ⟨_, rfl⟩
  have ek : (n : Int) % 10 + 1 = (k : Int) := by omega
  have hk10 : 1 ≤ k ∧ k ≤ 10 := by omega
  obtain ⟨k1, k2⟩ := hk10
  have HMK := Lib.hid (fun w => run_make_futs w k (by omega))
  clear hk h40
  have HQ : Hid (quotasZ [20] = [20]) := Lib.hid (by decide)
  have hmk := HMK.out
  go_enter Try.func10, Try.ntmps10
  go_wp2_with fail
  refine (known13_any w).mono ?_
  rintro e w1 ⟨rfl, hb1⟩
  have B1 := Lib.hid hb1; clear hb1
  obtain ⟨w2, hw2⟩ : ∃ w2, w2 = w1.alloc (.cells #[.int .i64 20] 3) := ⟨_, rfl⟩
  have B2 : Hid (Below w.heap.size w w2) := Lib.hid (by rw [hw2]; exact B1.out.alloc B1.out.size _)
  have HAN := Lib.hid (fuNew_any (.slice (some ⟨w1.heap.size, 0, none⟩) 1 1) [20] w2 (by rw [hw2]; exact numv_lit w1 [20]) (by simp))
  have HW2 := Lib.hid hw2
  clear hw2
  go_wp2_with fail
  rw [← HW2.out]
  with_reducible refine HAN.out.mono ?_
  rintro e w3 ⟨a, rfl, hA, hb3⟩
  rw [HQ.out] at hA
  obtain ⟨w4, hw4⟩ : ∃ w4, w4 = w3.alloc (.cells (rowE futA (List.replicate k zF)).toArray 64) := ⟨_, rfl⟩
  have H0 : Hid (ApK w w4 a w3.heap.size (mkF 0) (mkF 0 ++ List.replicate (k - 0) zF)) := Lib.hid (by
    have hz := B2.out.size
    have hz3 := hb3.size
    have hb4 : Below w3.heap.size w3 w4 := by rw [hw4]; exact below_alloc w3 _
    have hA' : FuV w3 (fun b => w2.heap.size ≤ b ∧ b < w3.heap.size) a [20] [mkF 0] := hA
    exact ⟨⟨_, hA'.below hb4, fun i hi => ⟨by have := hi.1; omega, by have := hi.2; omega⟩⟩, by rw [hw4, show mkF 0 ++ List.replicate (k - 0) zF = List.replicate k zF from rfl]; exact heap_alloc_new w3 _, (B2.out.trans (hb3.mono hz)).trans (hb4.mono (by omega)), by omega⟩)
  have HW4 := Lib.hid hw4
  clear hw4 hA hb3 HAN
  go_wp2_with fail
  rw [← HW4.out]
  clear hmk z4
  go_loopw [8] (fun i wr => ∃ j : Nat, j ≤ k ∧ i = .int .i64 j ∧ ApK w wr a w3.heap.size (mkF j) (mkF j ++ List.replicate (k - j) zF)) (fun i _ => k - (intOf i).toNat)
  case atStart => exact ⟨0, Nat.zero_le _, rfl, H0.out⟩
  case round =>
    clear H0
    obtain ⟨j, hj, rfl, hK⟩ := hrel
    have HK := Lib.hid hK
    clear hK
    by_cases hjk : j < k
    · obtain ⟨S1, hf, hlo⟩ := HK.out.fu
      obtain ⟨hm1, hm2⟩ := mk_one (mkF j) (by rw [mkF_len]; omega) ⟨(j : Int), 0, 0, 0⟩
      have HM := Lib.hid (fuMake_any hf 0 (j : Int) (by decide))
      unfold FuMk at HM
      rw [hm1, hm2] at HM
      rw [← mkF_snoc] at HM
      have HLO := Lib.hid hlo
      obtain ⟨h', hz⟩ := mkM_at j k hjk
      have HZ := Lib.hid (fun (w' : World) (h : ApK w w' a w3.heap.size (mkF (j + 1)) (mkF j ++ List.replicate (k - j) zF)) => (show w'.cell? ⟨w3.heap.size, j * 4, none⟩ = some (.int .i64 0) from h.cell (j := j) (i := 0) h' (by rw [hz]; rfl)))
      have HS := Lib.hid (fun (w' : World) (h : ApK w w' a w3.heap.size (mkF (j + 1)) (mkF j ++ List.replicate (k - j) zF)) => (show ApK w (w'.setCell ⟨w3.heap.size, j * 4, none⟩ (.int .i64 (j : Int))) a w3.heap.size (mkF (j + 1)) (mkF (j + 1) ++ List.replicate (k - (j + 1)) zF) from by
        have := h.put (j := j) (i := 0) h' (by omega) (.int .i64 (j : Int)) ⟨(j : Int), 0, 0, 0⟩ (by rw [hz]; rfl)
        rwa [mkM_set j k hjk] at this))
      obtain ⟨idz, hidz⟩ : ∃ idz, mkId [20] [mkF j] 0 = idz := ⟨_, rfl⟩
      rw [hidz] at HM
      clear hf hlo hm1 hm2 hidz h' hz
      have i1 : (0 : Int) ≤ (j : Int) ∧ (j : Int) < k := by omega
      go_wp2_with fail
      refine HM.out.mono ?_
      rintro e w5 ⟨rfl, S5, h5, t5⟩
      have H5 := Lib.hid (HK.out.step HLO.out h5 t5)
      have c5 := HZ.out w5 H5.out
      have f5 := H5.out.free (j * 4)
      have HF := Lib.hid (HS.out w5 H5.out)
      clear h5 t5
      go_wp2_with fail
      go_roundw
      case rel => exact ⟨j + 1, by omega, by go_num, HF.out⟩
      case measure => simp [intOf]; omega
    · obtain rfl : k = j := by omega
      have HK0 : Hid (ApK w wr a w3.heap.size (mkF k) (mkF k)) := Lib.hid (by have := HK.out; rwa [Nat.sub_self, List.replicate_zero, List.append_nil] at this)
      clear HK
      go_wp2_with fail
      go_loopw [11] (fun i wr => ∃ (q : Nat) (L : List FutX), q ≤ N ∧ i = .int .i64 q ∧ L.length = k ∧ ApK w wr a w3.heap.size L L) (fun i _ => N - (intOf i).toNat)
      case atStart => exact ⟨0, mkF k, Nat.zero_le _, rfl, mkF_len k, HK0.out⟩
      case round =>
        clear HK0
        obtain ⟨q, L, hq, rfl, hlen, hK⟩ := hrel
        have HK := Lib.hid hK
        have HLEN := Lib.hid hlen
        clear hK hlen
        by_cases hqN : q < N
        · have hql : q < l.length := by rw [HN.out]; exact hqN
          obtain ⟨b, off, rfl, hb, d0⟩ := lie_u8 HL.out hql
          have d1 : wr.cell? ⟨b, off + q, none⟩ = some (.int .u8 l[q]) := by rw [HK.out.bl.cell (p := ⟨b, off + q, none⟩) hb, d0]
          have hby := HY.out l[q] (List.getElem_mem hql)
          clear d0
          generalize l[q] = y at *
          clear hql
          obtain ⟨j, hjy⟩ : ∃ j : Nat, j = y.toNat % k := ⟨_, rfl⟩
          have hjk : j < k := by rw [hjy]; exact Nat.mod_lt _ (by omega)
          have ej : y % (k : Int) = (j : Int) := by
            obtain ⟨y', rfl⟩ : ∃ y' : Nat, y = y' := ⟨y.toNat, by omega⟩
            rw [hjy, Int.toNat_natCast]; simp
          have hjl : j < L.length := by rw [HLEN.out]; exact hjk
          have c1 := HK.out.cell (j := j) (i := 1) hjl (u := .int .i64 L[j].st) rfl
          have c2 := HK.out.cell (j := j) (i := 2) hjl (u := .int .i32 L[j].v) rfl
          have c3 := HK.out.cell (j := j) (i := 3) hjl (u := .int .i64 L[j].code) rfl
          have f1 := HK.out.free (j * 4 + 1)
          have f2 := HK.out.free (j * 4 + 2)
          have f3 := HK.out.free (j * 4 + 3)
          have i1 : (0 : Int) ≤ (q : Int) ∧ (q : Int) < N := by omega
          have i2 : (0 : Int) ≤ (j : Int) ∧ (j : Int) < k := by omega
          have k0 : k ≠ 0 := by omega
          obtain ⟨hat1, hat2, hat3⟩ := one_at L (by rw [HLEN.out]; omega) hjl
          have hop := open_at L (by rw [HLEN.out]; omega) hjl
          clear hjy
          by_cases hst : L[j].st = 0
          · have hopn : openB [L] (j : Int) = true := by rw [hop, hst]; rfl
            have z1 : (L[j].st == 0) = true := by rw [hst]; rfl
            by_cases h128 : y < 128
            · have hdone : (L.set j { L[j] with st := 1 }).set j (keepF (q : Int) L[j]) = L.set j (keepF (q : Int) L[j]) := by simp
              have hjl2 : j < (L.set j { L[j] with st := 1 }).length := by simpa using hjl
              have HP1 := HK.out.put (i := 1) hjl (by omega) (.int .i64 1) { L[j] with st := 1 } rfl
              have HP2 := HP1.put (i := 2) hjl2 (by omega) (.int .i32 (q : Int)) (keepF (q : Int) L[j]) (by simp [futA, keepF])
              rw [hdone] at HP2
              obtain ⟨w5, hw5⟩ : ∃ w5, w5 = (wr.setCell ⟨w3.heap.size, j * 4 + 1, none⟩ (.int .i64 1)).setCell ⟨w3.heap.size, j * 4 + 2, none⟩ (.int .i32 (q : Int)) := ⟨_, rfl⟩
              rw [← hw5] at HP2
              have H5 := Lib.hid HP2
              have HW5 := Lib.hid hw5
              obtain ⟨S1, hf, hlo⟩ := HP2.fu
              have HM := Lib.hid (fuKeep_any hf (j : Int) (q : Int) (by omega))
              unfold FuEn at HM
              rw [hopn, endL_yes hopn, hat3] at HM
              have HLO := Lib.hid hlo
              have HLN : Hid ((L.set j (keepF (q : Int) L[j])).length = k) := Lib.hid (by simpa using HLEN.out)
              have z2 : decide (y < 128) = true := by simpa using h128
              generalize L.set j (keepF (q : Int) L[j]) = L2 at *
              rw [hst] at c1
              clear hdone hjl2 HP1 HP2 hw5 hf hlo hat1 hat2 hat3 hop hopn hst
              generalize L[j].st = s0 at *
              generalize L[j].v = s1 at *
              generalize L[j].code = s2 at *
              clear hjl
              go_upto_region 19 with (fail)
              rw [ej]
              clear ej
              go_wp2_with fail
              rw [← HW5.out]
              refine HM.out.mono ?_
              rintro e w6 ⟨rfl, S6, h6, t6⟩
              have HF := Lib.hid (H5.out.step HLO.out h6 t6)
              clear h6 t6
              go_wp2_with fail
              go_roundw
              case rel => exact ⟨q + 1, L2, by omega, by go_num, HLN.out, HF.out⟩
              case measure => simp [intOf]; omega
            · have hdone : (L.set j { L[j] with st := 2 }).set j (breakF (q : Int) L[j]) = L.set j (breakF (q : Int) L[j]) := by simp
              have hjl2 : j < (L.set j { L[j] with st := 2 }).length := by simpa using hjl
              have HP1 := HK.out.put (i := 1) hjl (by omega) (.int .i64 2) { L[j] with st := 2 } rfl
              have HP2 := HP1.put (i := 3) hjl2 (by omega) (.int .i64 (q : Int)) (breakF (q : Int) L[j]) (by simp [futA, breakF])
              rw [hdone] at HP2
              obtain ⟨w5, hw5⟩ : ∃ w5, w5 = (wr.setCell ⟨w3.heap.size, j * 4 + 1, none⟩ (.int .i64 2)).setCell ⟨w3.heap.size, j * 4 + 3, none⟩ (.int .i64 (q : Int)) := ⟨_, rfl⟩
              rw [← hw5] at HP2
              have H5 := Lib.hid HP2
              have HW5 := Lib.hid hw5
              obtain ⟨S1, hf, hlo⟩ := HP2.fu
              have HM := Lib.hid (fuBreak_any hf (j : Int) (q : Int) (by omega))
              unfold FuEn at HM
              rw [hopn, endL_yes hopn, hat3] at HM
              have HLO := Lib.hid hlo
              have HLN : Hid ((L.set j (breakF (q : Int) L[j])).length = k) := Lib.hid (by simpa using HLEN.out)
              have z2 : decide (y < 128) = false := by simpa using h128
              generalize L.set j (breakF (q : Int) L[j]) = L2 at *
              rw [hst] at c1
              clear hdone hjl2 HP1 HP2 hw5 hf hlo hat1 hat2 hat3 hop hopn hst
              generalize L[j].st = s0 at *
              generalize L[j].v = s1 at *
              generalize L[j].code = s2 at *
              clear hjl
              go_upto_region 19 with (fail)
              rw [ej]
              clear ej
              go_wp2_with fail
              rw [← HW5.out]
              refine HM.out.mono ?_
              rintro e w6 ⟨rfl, S6, h6, t6⟩
              have HF := Lib.hid (H5.out.step HLO.out h6 t6)
              clear h6 t6
              go_wp2_with fail
              go_roundw
              case rel => exact ⟨q + 1, L2, by omega, by go_num, HLN.out, HF.out⟩
              case measure => simp [intOf]; omega
          · have hopn : openB [L] (j : Int) = false := by rw [hop]; simpa using hst
            have z1 : (L[j].st == 0) = false := by simpa using hst
            obtain ⟨S1, hf, hlo⟩ := HK.out.fu
            have HM := Lib.hid (fuKeep_any hf (j : Int) 5 (by omega))
            unfold FuEn at HM
            rw [hopn, endL_no hopn] at HM
            have HLO := Lib.hid hlo
            have HBR := Lib.hid (fun (w' : World) (S : Nat → Prop) (h : FuV w' S a [20] [L]) => fuBreak_any h (j : Int) 5 (by omega))
            unfold FuEn at HBR
            rw [hopn, endL_no hopn] at HBR
            clear hf hlo hat1 hat2 hat3 hop hopn hst
            generalize L[j].st = s0 at *
            generalize L[j].v = s1 at *
            generalize L[j].code = s2 at *
            clear hjl
            go_upto_region 19 with (fail)
            rw [ej]
            clear ej
            go_wp2_with fail
            refine HM.out.mono ?_
            rintro e w6 ⟨rfl, S6, h6, t6⟩
            have H6 := Lib.hid (HK.out.step HLO.out h6 t6)
            have HB6 := Lib.hid (HBR.out w6 S6 h6)
            have HLO6 := Lib.hid (t6.low (fun i hi => (HLO.out i hi).1) HK.out.bl.size)
            have HNE6 : Hid (∀ i, S6 i → i ≠ w3.heap.size) := Lib.hid fun i hi e => t6.apart (T := fun j => j = w3.heap.size) (fun i e => by rw [e]; exact (Array.getElem?_eq_some_iff.1 HK.out.bx).1) (fun i hi e => (HLO.out i hi).2 e) i hi e
            clear h6 t6
            go_wp2_with fail
            refine HB6.out.mono ?_
            rintro e w7 ⟨rfl, S7, h7, t7⟩
            have HF := Lib.hid (H6.out.step (fun i hi => ⟨HLO6.out i hi, HNE6.out i hi⟩) h7 t7)
            clear h7 t7
            go_wp2_with fail
            go_roundw
            case rel => exact ⟨q + 1, L, by omega, by go_num, HLEN.out, HF.out⟩
            case measure => simp [intOf]; omega
        · obtain rfl : N = q := by omega
          have HK1 := Lib.hid HK.out
          clear HK
          go_wp2_with fail
          go_loopw [13] (fun i wr => ∃ j : Nat, j ≤ k ∧ i = .int .i64 j ∧ ApK w wr a w3.heap.size L L) (fun i _ => k - (intOf i).toNat)
          case atStart => exact ⟨0, Nat.zero_le _, rfl, HK1.out⟩
          case round =>
            clear HK1
            obtain ⟨j, hj, rfl, hK⟩ := hrel
            have HK := Lib.hid hK
            clear hK
            by_cases hjk : j < k
            · have hjl : j < L.length := by rw [HLEN.out]; exact hjk
              obtain ⟨S1, hf, hlo⟩ := HK.out.fu
              obtain ⟨hat1, hat2, hat3⟩ := one_at L (by rw [HLEN.out]; omega) hjl
              have HG := Lib.hid (fuGet_any hf (j : Int) (by omega))
              unfold GotF at HG
              rw [hat1, hat2] at HG
              have HC := Lib.hid (fun (w' : World) (h : ApK w w' a w3.heap.size L L) (i : Nat) (u : Value) hu => h.cell (j := j) (i := i) hjl (u := u) hu)
              obtain ⟨x, hx⟩ : ∃ x, L[j] = x := ⟨_, rfl⟩
              rw [hx] at HG HC
              unfold futA at HG HC
              have i1 : (0 : Int) ≤ (j : Int) ∧ (j : Int) < k := by omega
              clear hf hlo hat1 hat2 hat3 hx hjl
              go_wp2_with fail
              refine HG.out.mono ?_
              rintro e w5 ⟨rfl, hb⟩
              have H5 := Lib.hid (HK.out.below hb)
              clear hb
              have c0 : w5.cell? ⟨w3.heap.size, j * 4, none⟩ = some (.int .i64 x.lb) := HC.out _ H5.out 0 _ rfl
              have c1 : w5.cell? ⟨w3.heap.size, j * 4 + 1, none⟩ = some (.int .i64 x.st) := HC.out _ H5.out 1 _ rfl
              have c2 : w5.cell? ⟨w3.heap.size, j * 4 + 2, none⟩ = some (.int .i32 x.v) := HC.out _ H5.out 2 _ rfl
              have c3 : w5.cell? ⟨w3.heap.size, j * 4 + 3, none⟩ = some (.int .i64 x.code) := HC.out _ H5.out 3 _ rfl
              have hwb : w3.heap.size < w5.heap.size := (Array.getElem?_eq_some_iff.1 H5.out.bx).1
              have HF := Lib.hid (H5.out.below (below_alloc w5 (.cells #[.int .i64 x.lb, .int .i64 x.st, .int .i32 x.v, .int .i64 x.code] 64)))
              have HF2 := Lib.hid (fun m => HF.out.below (below_drewN (Below.refl _ _) m))
              have r0 : (x.lb == x.lb) = true := beq_self_eq_true _
              have r1 : (x.st == x.st) = true := beq_self_eq_true _
              have r2 : (x.v == x.v) = true := beq_self_eq_true _
              have r3 : (x.code == x.code) = true := beq_self_eq_true _
              go_wp2_with fail
              go_quiet (fail)
              go_wp2_with fail
              go_roundw
              case rel => exact ⟨j + 1, by omega, by go_num, HF2.out _⟩
              case measure => simp [intOf]; omega
            · obtain rfl : k = j := by omega
              obtain ⟨S1, hf, hlo⟩ := HK.out.fu
              have HALL := Lib.hid (fun w' (hb : Below wr.heap.size wr w') => fuAll_any (hf.below hb))
              have HLK : Hid (∀ Ar cr, Value.slice Ar ([L] : List (List FutX))[0].length cr = .slice Ar k cr) := Lib.hid fun Ar cr => by rw [show ([L] : List (List FutX))[0].length = k from HLEN.out]
              clear hf hlo
              go_wp2_with fail
              refine (HALL.out _ (Below.refl _ _)).mono ?_
              rintro e w9 ⟨⟨v9, rfl, h9⟩, b9⟩
              obtain ⟨tb, rfl, _⟩ := h9.row
              have B9 := Lib.hid b9
              clear h9 b9
              go_wp2_with fail
              refine (HALL.out _ B9.out).mono ?_
              rintro e w10 ⟨⟨v10, rfl, h10⟩, b10⟩
              obtain ⟨tb2, rfl, hr⟩ := h10.row
              obtain ⟨Ar, cr, hc, _⟩ := hr 0 (Nat.lt_succ_self 0)
              have hc' : w10.cell? ⟨tb2, 0, none⟩ = some (.slice Ar k cr) := by rw [← HLK.out Ar cr]; exact hc
              have HF : Hid (Below w.heap.size w w10) := Lib.hid ((HK.out.bl.trans (B9.out.mono HK.out.bl.size)).trans (b10.mono (Nat.le_trans HK.out.bl.size B9.out.size)))
              have rk : ((k : Int) == (k : Int)) = true := beq_self_eq_true _
              clear h10 hr hc b10
              go_wp2_with fail
              go_ret
              exact ⟨rfl, HF.out⟩

/- The claim. -/

set_option maxRecDepth 100000 in
theorem lifted (os : Os) (started : os.Started) (H : Type) (enc : TypeId × Value → H) :
    ReturnsInHanded {} Try.checked os 10 .any (Rows.futureApartSpec.pre6 enc Try.prog Try.f10 Rows.futureApartRow.domain false) (Rows.futureApartSpec.post enc Try.prog Try.f10 false true false false) := by
  refine returnsInHanded_of_change (C := Try.checked) ownKnobs started (by kernel_rfl) Try.func10
    (ChangeSpec.witness6 (enc := enc) (C := Try.checked) false ⟨#[], #[.int .u8 0, .slice none 0 0], []⟩ 8 (by kernel_rfl) (by kernel_rfl) (by kernel_rfl) (by kernel_rfl)) ?_
  intro W base args ds gs before hval hW _ _
  refine law_contract rfl rfl (fun ds h => by match ds, h with | [d1, d2], _ => rfl) (by decide +kernel) hW ?_
  obtain ⟨p, q, hA0, _⟩ := hW
  have hA : DataW.TrodAll enc Try.prog W 0 (fun _ => true) true Try.f10.params.toList args.toList ds p := hA0
  have hval' : ∀ (j : Nat) t v, Try.f10.params[j]? = some t → args[j]? = some v → Value.okWide Try.prog W .any base t v := hval
  rw [Try.params10] at hA hval'
  obtain ⟨v0, vs0, d0, ds0, p0, q0, hargs, rfl, rfl, h0, r0⟩ := trodAll_cons hA
  obtain ⟨v1, vs1, d1, ds1, p1, q1, rfl, rfl, rfl, h1, r1⟩ := trodAll_cons r0
  obtain ⟨rfl, rfl, rfl⟩ := trodAll_nil r1
  obtain rfl : args = #[v0, v1] := by cases args; simp_all
  obtain ⟨z0, rfl, rfl, rfl, w0⟩ := open_int Try.underlying5 (hval' 0 _ v0 rfl rfl) h0
  have b0 : 0 ≤ z0 ∧ z0 ≤ 255 := by simpa [Lit.wf, IntKind.min, IntKind.max, IntKind.signed, IntKind.bits] using w0
  obtain ⟨a0, rfl⟩ : ∃ n : Nat, z0 = n := ⟨z0.toNat, by omega⟩
  obtain ⟨l1, h1, m1, y1⟩ := open_bytv (hval' 1 _ v1 rfl rfl) h1
  exact walk a0 v1 l1 W (by omega) h1 m1 y1

theorem proved : Rows.FutureApartSaid :=
  OpenClaim.holds_of_wide 10 Try.f10 rfl rfl rfl rfl rfl rfl rfl ⟨rfl, rfl, rfl, rfl, rfl⟩ rfl rfl rfl rfl rfl (by kernel_rfl) Try.func10 (by kernel_rfl)
    (of_decide_eq_true (by kernel_rfl)) (by unfold Func.isWrapper; first | (rw [if_pos (by decide +kernel)]; kernel_rfl) | (rw [if_neg (by decide +kernel)]; exact ⟨rfl, rfl⟩))
    (fun os started H enc _ => lifted os started H enc)

end Go.Proofs.Ytboelofkbhgmfaa.futureApart
