/- The instruction that a text is, by the reference: the same as by package instr. -/
import Derived.Test.YtmcniddpjpbghaaDoorBackI
import Derived.Test.YtmcniddpjpbghaaDoorDecI
import Derived.Deep.CutRange
import Derived.Deep.CutBlock
import Derived.Deep.DeepCutAuto
import Derived.BigQuiet
namespace Go.Proofs.YtmcniddpjpbghaaDoor
set_option maxRecDepth 100000
open Go.RowKit

/-- One more letter of a numeral: what is no digit is passed over. -/
def digF (v : Nat) (c : UInt8) : Nat := if 48 ≤ c.toNat ∧ c.toNat ≤ 57 then 10 * v + (c.toNat - 48) else v
/-- The number of the first k letters behind place p. -/
def refV (l : List UInt8) (p k : Nat) : Nat := ((l.drop (p + 1)).take k).foldl digF 0
theorem digF_digit {k v : Nat} (h : k < 10) : digF v (UInt8.ofNat (48 + k)) = 10 * v + k := by
  unfold digF; rw [digit_toNat k h, if_pos (by omega)]; omega
theorem fold_digits (u : Nat) : (Lib.decDigits u).foldl digF 0 = u := by
  induction u using Nat.strongRecOn with
  | _ u ih =>
    by_cases h : u < 10
    · rw [Lib.decDigits, dif_pos h, List.foldl_cons, List.foldl_nil, digF_digit h]; omega
    · rw [Lib.decDigits, dif_neg h, List.foldl_append, ih (u / 10) (by omega), List.foldl_cons, List.foldl_nil, digF_digit (by omega)]; omega
theorem fold_itoa (a : Int) : (Lib.itoa a).foldl digF 0 = a.natAbs := by
  by_cases h : a < 0
  · unfold Lib.itoa
    rw [if_pos h, List.foldl_cons, show digF 0 45 = 0 from rfl]; exact fold_digits _
  · obtain ⟨u, rfl⟩ : ∃ u : Nat, a = u := ⟨a.toNat, by omega⟩
    rw [Lib.itoa_nonneg, fold_digits]; omega
theorem itoa_12 {a : Int} (h : I32 a) : (Lib.itoa a).length ≤ 12 := by
  obtain ⟨h1, h2⟩ := h
  by_cases hn : a < 0
  · unfold Lib.itoa
    rw [if_pos hn, List.length_cons]
    have := dd_len 9 a.natAbs (by have : (10 : Nat) ^ (9 + 1) = 10000000000 := by decide
                                  omega)
    omega
  · obtain ⟨u, rfl⟩ : ∃ u : Nat, a = u := ⟨a.toNat, by omega⟩
    rw [Lib.itoa_nonneg]
    have := dd_len 9 u (by have : (10 : Nat) ^ (9 + 1) = 10000000000 := by decide
                           omega)
    omega
theorem refV_text {n : Nat} {a : Int} (hr : rightB n a = true) (ha : I32 a) : refV (textL n a) (preL (textL n a)).length 12 = a.natAbs := by
  have hk := (knownB_iff n).1 (rightB_known hr)
  obtain ⟨h1, h2⟩ := nm_space n (by omega) (by omega)
  unfold refV
  by_cases hz : argZ n = 0
  · have ha0 := rightB_noarg hr hz
    rw [textL_one hr hz, h1, List.drop_eq_nil_of_le (by omega), ha0]; rfl
  · rw [textL_two hr hz, preL_app h1]
    have e : List.drop ((nm n).data.toList.length + 1) ((nm n).data.toList ++ 32 :: Lib.itoa a) = Lib.itoa a := by
      rw [List.drop_append]; simp
    rw [e, List.take_of_length_le (itoa_12 ha)]; exact fold_itoa a
theorem refV_zero (l : List UInt8) (p : Nat) : refV l p 0 = 0 := by unfold refV; rw [List.take_zero]; rfl
theorem refV_succ {l : List UInt8} {p k : Nat} (h : p + 1 + k < l.length) : refV l p (k + 1) = digF (refV l p k) l[p + 1 + k] := by
  unfold refV
  rw [List.take_succ_eq_append_getElem (by rw [List.length_drop]; omega), List.foldl_append, List.foldl_cons, List.foldl_nil, List.getElem_drop]
theorem refV_over {l : List UInt8} {p k : Nat} (h : l.length ≤ p + 1 + k) (hk : k ≤ 12) : refV l p k = refV l p 12 := by
  unfold refV
  rw [List.take_of_length_le (by rw [List.length_drop]; omega), List.take_of_length_le (by rw [List.length_drop]; omega)]
theorem refV_lt (l : List UInt8) (p : Nat) : ∀ k, refV l p k < 10 ^ k := by
  intro k
  induction k with
  | zero => rw [refV_zero]; decide
  | succ k ih =>
    by_cases h : p + 1 + k < l.length
    · rw [refV_succ h, Nat.pow_succ]; unfold digF; split <;> omega
    · have e : refV l p (k + 1) = refV l p k := by
        unfold refV
        rw [List.take_of_length_le (by rw [List.length_drop]; omega), List.take_of_length_le (by rw [List.length_drop]; omega)]
      rw [e, Nat.pow_succ]; omega

/-- x is the argument that the reference takes. -/
def okAt (l : List UInt8) (x : Int) : Bool := decide (-2147483648 ≤ x) && decide (x ≤ 2147483647) && (textL (pOp l) x == l)
theorem okAt_yes {l : List UInt8} {x : Int} (h0 : pOp l ≠ 0) (h : okAt l x = true) : parseOk l = true ∧ pArg l = x := by
  unfold okAt at h
  rw [Bool.and_eq_true, Bool.and_eq_true, decide_eq_true_eq, decide_eq_true_eq, beq_iff_eq] at h
  obtain ⟨⟨h1, h2⟩, h3⟩ := h
  cases hr : rightB (pOp l) x with
  | false =>
    rw [textL_no hr] at h3
    subst h3
    exact absurd (by decide +kernel) h0
  | true =>
    obtain ⟨b1, _, b3⟩ := parse_back hr ⟨h1, h2⟩
    rw [h3] at b1 b3
    exact ⟨b1, b3⟩
theorem okAt_back {l : List UInt8} (h : parseOk l = true) : okAt l (refV l (preL l).length 12) = true ∨ okAt l (-(refV l (preL l).length 12 : Nat)) = true := by
  have hp := pint_range (sufL l)
  unfold parseOk at h
  rw [Bool.and_eq_true, beq_iff_eq] at h
  obtain ⟨h0, h1⟩ := h
  have ha : I32 (pArg l) := hp
  obtain ⟨a, hae⟩ : ∃ a, pArg l = a := ⟨_, rfl⟩
  rw [hae] at h1 ha
  have hok : okAt l a = true := by
    unfold okAt
    rw [h1]
    obtain ⟨a1, a2⟩ := ha
    simp [a1, a2]
  have hr : rightB (pOp l) a = true := by
    cases hr : rightB (pOp l) a with
    | true => rfl
    | false =>
      rw [textL_no hr] at h1
      subst h1
      exact absurd (by decide +kernel) (show ¬ (pOp [] != 0) = false by rw [h0]; decide)
  have hv := refV_text hr ha
  rw [h1] at hv
  rw [hv]
  by_cases h : 0 ≤ a
  · exact Or.inl (by rw [show ((a.natAbs : Nat) : Int) = a by omega]; exact hok)
  · exact Or.inr (by rw [show -((a.natAbs : Nat) : Int) = a by omega]; exact hok)
/-- Which letters are before the first space. -/
theorem preL_lt {l : List UInt8} {n : Nat} (h : n < (preL l).length) (h2 : n < l.length) : l[n] ≠ 32 := by
  have := List.all_eq_true.1 (List.all_takeWhile (l := l) (p := fun c => c != 32)) (preL l)[n] (by unfold preL; exact List.getElem_mem _)
  have e : (preL l)[n] = l[n] := by
    have := preL_take l
    rw [List.getElem_of_eq this h]; simp
  rw [e] at this
  simpa using this
theorem preL_at : ∀ {l : List UInt8} (h : (preL l).length < l.length), l[(preL l).length] = 32
  | [], h => by simp at h
  | b :: l, h => by
    by_cases hb : b = 32
    · subst hb; simp [preL]
    · have e : preL (b :: l) = b :: preL l := by simp [preL, hb]
      have := preL_at (l := l) (by rw [e] at h; simpa using h)
      simp [e, this]

/-- Byte n of a string, as a number. -/
def bz (s : ByteArray) (n : Nat) : Int := if h : n < s.size then ((s[n]'h).toNat : Int) else 0
theorem get_bz (s : ByteArray) : ∀ (n : Nat) (h : n < s.size), ((s[n]'h).toNat : Int) = bz s n := fun n h => by unfold bz; rw [dif_pos h]
theorem bz_list {s : ByteArray} {n : Nat} (h : n < s.data.toList.length) : bz s n = ((s.data.toList[n]).toNat : Int) := by
  rw [← get_bz s n (by rw [Lib.size_eq]; exact h)]; rfl
theorem bz_range (s : ByteArray) (n : Nat) : 0 ≤ bz s n ∧ bz s n ≤ 255 := by
  unfold bz; split
  · have := UInt8.toNat_lt (s[n]'(by assumption)); omega
  · omega

set_option maxRecDepth 100000 in
set_option maxHeartbeats 4000000 in
theorem refParse_any (s : ByteArray) (w : World) (hs : s.size ≤ 1000000) :
    Calls Tryd.prog 19 #[.string s] w fun e w' =>
      e = .returned (.tuple #[insV (if parseOk s.data.toList then (pOp s.data.toList : Nat) else 0) (if parseOk s.data.toList then pArg s.data.toList else 0), .bool (parseOk s.data.toList)]) ∧ Below w.heap.size w w' := by
  have hle := preL_le s.data.toList
  have hsz : s.data.toList.length = s.size := (Lib.size_eq s).symm
  have hpre := pre_extract s
  have hp0 : Hid (∀ n, n < (preL s.data.toList).length → (bz s n != 32) = true) := Lib.hid fun n h => by
    have h2 : n < s.data.toList.length := by omega
    rw [bz_list h2, bne_iff_ne]
    have h3 := preL_lt h h2
    intro e
    exact h3 (UInt8.toNat_inj.1 (by have e2 : (s.data.toList[n]).toNat = 32 := by { omega }
                                    rw [e2]; rfl))
  have hp1 : Hid ((preL s.data.toList).length < s.size → (bz s (preL s.data.toList).length != 32) = false) := Lib.hid fun h => by
    have h2 : (preL s.data.toList).length < s.data.toList.length := by omega
    rw [bz_list h2, preL_at h2]; rfl
  have hz : Hid (∀ k, k ≤ 12 → s.size ≤ (preL s.data.toList).length + 1 + k → refV s.data.toList (preL s.data.toList).length k = refV s.data.toList (preL s.data.toList).length 12) := Lib.hid fun k hk h => refV_over (by omega) hk
  have hsucc : Hid (∀ k, (preL s.data.toList).length + 1 + k < s.size → (refV s.data.toList (preL s.data.toList).length (k + 1) : Int) = if 48 ≤ bz s ((preL s.data.toList).length + 1 + k) ∧ bz s ((preL s.data.toList).length + 1 + k) ≤ 57 then 10 * (refV s.data.toList (preL s.data.toList).length k : Int) + (bz s ((preL s.data.toList).length + 1 + k) - 48) else (refV s.data.toList (preL s.data.toList).length k : Int)) := Lib.hid fun k h => by
    have h2 : (preL s.data.toList).length + 1 + k < s.data.toList.length := by omega
    rw [bz_list h2, refV_succ h2]; unfold digF
    split <;> split <;> omega
  have hlt := refV_lt s.data.toList (preL s.data.toList).length
  have hyes : Hid (∀ x, pOp s.data.toList ≠ 0 → okAt s.data.toList x = true → parseOk s.data.toList = true ∧ pArg s.data.toList = x) := Lib.hid fun x h0 h => okAt_yes h0 h
  have hback : Hid (okAt s.data.toList (refV s.data.toList (preL s.data.toList).length 12) = false → okAt s.data.toList (-(refV s.data.toList (preL s.data.toList).length 12 : Nat)) = false → parseOk s.data.toList = false) := Lib.hid fun h1 h2 => by
    cases h : parseOk s.data.toList with
    | false => rfl
    | true => rcases okAt_back h with h | h
              · rw [h] at h1; cases h1
              · rw [h] at h2; cases h2
  have hno : Hid (pOp s.data.toList = 0 → parseOk s.data.toList = false) := Lib.hid fun h => by unfold parseOk; rw [h]; rfl
  obtain ⟨l, hl⟩ : ∃ l, s.data.toList = l := ⟨_, rfl⟩
  rw [hl] at hle hsz hpre hp0 hp1 hz hsucc hlt hyes hback hno ⊢
  have hse : s = ⟨l.toArray⟩ := by rw [← hl]
  obtain ⟨p, hp⟩ : ∃ p, (preL l).length = p := ⟨_, rfl⟩
  rw [hp] at hle hpre hp0 hp1 hz hsucc hlt hback
  obtain ⟨op, hop⟩ : ∃ op, pOp l = op := ⟨_, rfl⟩
  have hF : ∀ w, Calls Tryd.prog 45 #[.string (s.extract 0 p)] w fun e w' => e = .returned (.tuple #[.int .i64 op, .bool (op != 0)]) ∧ Below w.heap.size w w' := fun w => by
    have := refFind_any ⟨(preL l).toArray⟩ w
    rw [show findN ⟨(preL l).toArray⟩ = op from hop] at this
    rw [← hpre]; exact this
  have HF := Lib.hid hF
  obtain ⟨V, hV⟩ : ∃ V : Nat → Nat, (fun k => refV l p k) = V := ⟨_, rfl⟩
  have hV' : ∀ k, refV l p k = V k := fun k => by rw [← hV]
  simp only [hV'] at hz hsucc hlt hback
  have V0 : V 0 = 0 := by rw [← hV]; exact refV_zero l p
  obtain ⟨okx, hokx⟩ : ∃ okx, okAt l = okx := ⟨_, rfl⟩
  have HK : Hid (∀ x, okx x = true ↔ ((-2147483648 ≤ x ∧ x ≤ 2147483647) ∧ (⟨(textL op x).toArray⟩ : ByteArray) = s)) := Lib.hid fun x => by
    rw [← hokx, okAt, hop, Bool.and_eq_true, Bool.and_eq_true, decide_eq_true_eq, decide_eq_true_eq, beq_iff_eq, hse]
    simp
  obtain ⟨ok, hok⟩ : ∃ ok, parseOk l = ok := ⟨_, rfl⟩
  obtain ⟨X, hX⟩ : ∃ X, pArg l = X := ⟨_, rfl⟩
  rw [hop, hok, hX, hokx] at hyes
  rw [hok, hokx] at hback
  rw [hop, hok] at hno
  rw [hop, hok, hX]
  have HLT := Lib.hid hlt; have HV0 := Lib.hid V0
  obtain ⟨n, hn⟩ : ∃ n, s.size = n := ⟨_, rfl⟩
  rw [hsz, hn] at hle
  have hb := get_bz s
  have hbr := Lib.hid (bz_range s)
  clear hpre hse hl hsz hp hop hF hV hV' V0 hlt hokx hok hX
  have h10 : (10 : Nat) ^ 12 = 1000000000000 := by decide
  have hV12 : V 12 < 1000000000000 := by have := HLT.out 12; omega
  have hq0 := heap_alloc_new w (.cells #[.int .i64 0, .int .i32 0] 23)
  have hb0 := below_alloc w (.cells #[.int .i64 0, .int .i32 0] 23)
  obtain ⟨w1, hw1⟩ : ∃ w1, w.alloc (.cells #[.int .i64 0, .int .i32 0] 23) = w1 := ⟨_, rfl⟩
  obtain ⟨q, hq⟩ : ∃ q, w.heap.size = q := ⟨_, rfl⟩
  rw [hw1] at hq0 hb0
  have HQ0 := Lib.hid hq0
  have B1 := Lib.hid hb0
  rw [hq] at HQ0
  have hs1 := (Array.getElem?_eq_some_iff.1 HQ0.out).1
  clear hq0 hb0 h10
  go_enter Tryd.func19, Tryd.ntmps19
  go_upto_block 0 with fail
  go_cut [4] from 12 to 23 (fun i wx => i = .int .i64 p ∧ wx = w1)
  case first =>
    go_wp2_with fail
    go_loopw [4] (fun i wr => ∃ k : Nat, k ≤ p ∧ i = .int .i64 k ∧ wr = w1) (fun i _ => p - (intOf i).toNat)
    case atStart => exact ⟨0, Nat.zero_le _, rfl, rfl⟩
    case round =>
      obtain ⟨k, hk, rfl, hw⟩ := hrel
      subst hw
      by_cases hkp : k < p
      · have t1 : k < n := by omega
        have t2 := hp0.out k hkp
        go_wp2_with fail
        exact ⟨⟨k + 1, by omega, by go_num, trivial⟩, by simp only [intOf]; omega⟩
      · obtain rfl : k = p := by omega
        have HX : Hid (k < n → (bz s k != 32) = false) := Lib.hid fun h => hp1.out (by omega)
        clear hp1 hkp hk
        by_cases t1 : k < n
        · have t2 := HX.out t1
          go_wp2_with fail
          go_meet
          exact ⟨rfl, rfl⟩
        · have t1' : k = n := by omega
          go_wp2_with fail
          go_meet
          exact ⟨rfl, rfl⟩
  case rest =>
    obtain ⟨rfl, hwc⟩ := hcut
    subst hwc
    clear hw1
    go_wp2_with fail
    refine (HF.out _).mono ?_
    rintro e w2 ⟨rfl, hb2⟩
    have B2 := Lib.hid (nextB B1.out hb2)
    have hq2 := (hb2.block q hs1).trans HQ0.out
    have c0 : w2.cell? ⟨q, 0, none⟩ = some (.int .i64 0) := cell_blk hq2 0
    have c1 : w2.cell? ⟨q, 1, none⟩ = some (.int .i32 0) := cell_blk hq2 1
    have f0 : w2.frozen? ⟨q, 0, none⟩ = false := frozen_blk hq2 0
    have f1 : w2.frozen? ⟨q, 1, none⟩ = false := frozen_blk hq2 1
    have HQ2 := Lib.hid hq2
    have HQ := Lib.hid hq
    have hle2 : Hid (w.heap.size ≤ q) := Lib.hid (by rw [hq]; exact Nat.le_refl _)
    have hs2 := (Array.getElem?_eq_some_iff.1 hq2).1
    clear hb2 B1 HQ0 hs1 hq2
    by_cases h0 : op = 0
    · subst h0
      have eok : ok = false := hno.out rfl
      subst eok
      clear hq hs2
      go_wp2_with fail
      try simp only [Exit.inBlock, Exit.then]
      have hset := set_blk (set_blk HQ2.out 0 (.int .i64 0)) 1 (.int .i32 0)
      refine ret_instr2 rfl rfl rfl hset ?_
      refine ⟨rfl, ?_⟩
      exact (B2.out.setCell (p := ⟨q, 0, none⟩) hle2.out _).setCell (p := ⟨q, 1, none⟩) hle2.out _
    · have hfo : (op != 0) = true := by simpa using h0
      clear hq hs2 c0 c1 f0 f1
      go_upto_block 2 with fail
      go_cut [7, 8] from 36 to 65 (fun v _ wx => v = .int .i64 (V 12) ∧ wx = w2)
      case first =>
        go_wp2_with fail
        go_loopw [7, 8] (fun v i wr => ∃ j : Nat, j ≤ 12 ∧ v = .int .i64 (V j) ∧ i = .int .i64 ((p + 1 + j : Nat) : Int) ∧ (j = 0 ∨ p + 1 + j ≤ n) ∧ wr = w2) (fun _ i _ => (p + 13) - (intOf i).toNat)
        case atStart => exact ⟨0, Nat.zero_le _, by rw [HV0.out]; rfl, by go_num, Or.inl rfl, rfl⟩
        case round =>
          obtain ⟨j, hj, rfl, rfl, hor, hw⟩ := hrel
          subst hw
          have hvj := HLT.out j
          by_cases hjn : p + 1 + j < n
          · by_cases hj12 : j < 12
            · have hs := hsucc.out j (by omega)
              have hvb : V j < 1000000000000 := by
                have : (10 : Nat) ^ j ≤ 10 ^ 12 := Nat.pow_le_pow_right (by decide) (by omega)
                have h10 : (10 : Nat) ^ 12 = 1000000000000 := by decide
                omega
              have hbn := hbr.out (p + 1 + j)
              obtain ⟨c, hc⟩ : ∃ c, bz s (p + 1 + j) = c := ⟨_, rfl⟩
              rw [hc] at hs hbn
              obtain ⟨v, hv⟩ : ∃ v, V j = v := ⟨_, rfl⟩
              rw [hv] at hs hvb
              have HSS := Lib.hid hs
              clear hs hvj
              have e13 : ((p + 1 + j : Nat) : Int) < (p : Int) + 13 := by omega
              rw [hv]
              obtain ⟨k, hk⟩ : ∃ k, p + 1 + j = k := ⟨_, rfl⟩
              have HKK := Lib.hid hk
              rw [hk] at hc hjn e13 ⊢
              clear hk hv
              by_cases d1 : 48 ≤ c
              · by_cases d2 : c ≤ 57
                · have ev : ((V (j + 1) : Nat) : Int) = 10 * (v : Int) + (c - 48) := by rw [HSS.out, if_pos ⟨d1, d2⟩]
                  have ew : (c - 48) % 256 = c - 48 := by omega
                  have HEV := Lib.hid ev; clear ev
                  go_wp2_with fail
                  refine ⟨⟨j + 1, by omega, ?_, ?_, Or.inr (by have := HKK.out; omega), trivial⟩, by simp only [intOf]; have := HKK.out; omega⟩
                  · rw [HEV.out]
                  · have := HKK.out; go_num
                · have ev : ((V (j + 1) : Nat) : Int) = (v : Int) := by rw [HSS.out, if_neg (by omega)]
                  have HEV := Lib.hid ev; clear ev
                  go_wp2_with fail
                  refine ⟨⟨j + 1, by omega, ?_, ?_, Or.inr (by have := HKK.out; omega), trivial⟩, by simp only [intOf]; have := HKK.out; omega⟩
                  · rw [HEV.out]
                  · have := HKK.out; go_num
              · have ev : ((V (j + 1) : Nat) : Int) = (v : Int) := by rw [HSS.out, if_neg (by omega)]
                have HEV := Lib.hid ev; clear ev
                go_wp2_with fail
                refine ⟨⟨j + 1, by omega, ?_, ?_, Or.inr (by have := HKK.out; omega), trivial⟩, by simp only [intOf]; have := HKK.out; omega⟩
                · rw [HEV.out]
                · have := HKK.out; go_num
            · obtain rfl : j = 12 := by omega
              clear hvj hor
              have e13 : ¬ ((p + 1 + 12 : Nat) : Int) < (p : Int) + 13 := by omega
              obtain ⟨k, hk⟩ : ∃ k, p + 1 + 12 = k := ⟨_, rfl⟩
              rw [hk] at hjn e13 ⊢
              clear hk
              go_wp2_with fail
              go_meet
              exact ⟨rfl, rfl⟩
          · have ez := hz.out j hj (by omega)
            rw [ez]
            obtain ⟨k, hk⟩ : ∃ k, p + 1 + j = k := ⟨_, rfl⟩
            rw [hk] at hjn ⊢
            clear hk hor hvj ez
            go_wp2_with fail
            go_meet
            exact ⟨rfl, rfl⟩
      case rest =>
        obtain ⟨rfl, hwc⟩ := hcut
        subst hwc
        clear hz hsucc HLT HV0 hp0 hp1 hb hbr hle
        obtain ⟨v, hv⟩ : ∃ v, V 12 = v := ⟨_, rfl⟩
        rw [hv] at hback hV12 ⊢
        clear hv
        have hn3 := heap_alloc_new wc (.cells #[.int .i64 v, .int .i64 (-(v : Int))] 2)
        have hb3 := below_alloc wc (.cells #[.int .i64 v, .int .i64 (-(v : Int))] 2)
        obtain ⟨w3, hw3⟩ : ∃ w3, wc.alloc (.cells #[.int .i64 v, .int .i64 (-(v : Int))] 2) = w3 := ⟨_, rfl⟩
        obtain ⟨t, ht⟩ : ∃ t, wc.heap.size = t := ⟨_, rfl⟩
        rw [hw3] at hn3 hb3
        rw [ht] at hn3
        have HN3 := Lib.hid hn3
        have B3 := Lib.hid (nextB B2.out hb3)
        have HQ3 := Lib.hid ((hb3.block q (Array.getElem?_eq_some_iff.1 HQ2.out).1).trans HQ2.out)
        clear hn3 hb3 HQ2 B2
        go_wp2_with fail
        clear hw3 ht
        go_loopw [71] (fun i wr => ∃ k : Nat, k ≤ 2 ∧ i = .int .i64 k ∧ (0 < k → okx v = false) ∧ (1 < k → okx (-(v : Int)) = false) ∧ wr.heap[t]? = some (.cells #[.int .i64 v, .int .i64 (-(v : Int))] 2 (0, 0)) ∧ wr.heap[q]? = some (.cells #[.int .i64 0, .int .i32 0] 23 (0, 0)) ∧ Below w.heap.size w wr) (fun i _ => 2 - (intOf i).toNat)
        case atStart => exact ⟨0, by omega, rfl, fun h => by omega, fun h => by omega, HN3.out, HQ3.out, B3.out⟩
        case round =>
          clear HN3 HQ3 B3
          obtain ⟨k, hk, rfl, hk0, hk1, hkt, hkq, hkb⟩ := hrel
          have HK0 := Lib.hid hk0; have HK1 := Lib.hid hk1; have HKT := Lib.hid hkt; have HKQ := Lib.hid hkq; have HKB := Lib.hid hkb
          clear hk0 hk1 hkt hkq hkb
          by_cases hk2 : k < 2
          · obtain ⟨x, hx, hcx⟩ : ∃ x : Int, (k = 0 ∧ x = v ∨ k = 1 ∧ x = -(v : Int)) ∧ wr.cell? ⟨t, k, none⟩ = some (.int .i64 x) := by
              by_cases h0 : k = 0
              · subst h0; exact ⟨v, Or.inl ⟨rfl, rfl⟩, cell_blk HKT.out 0⟩
              · obtain rfl : k = 1 := by omega
                exact ⟨-(v : Int), Or.inr ⟨rfl, rfl⟩, cell_blk HKT.out 1⟩
            have hxr : -1000000000000 < x ∧ x < 1000000000000 := by omega
            have HX := Lib.hid hx
            have HFF : Hid (okx x = false → (0 < k + 1 → okx v = false) ∧ (1 < k + 1 → okx (-(v : Int)) = false)) := Lib.hid fun h => by
              rcases HX.out with ⟨rfl, rfl⟩ | ⟨rfl, rfl⟩
              · exact ⟨fun _ => h, fun h => by omega⟩
              · exact ⟨fun _ => HK0.out (by omega), fun _ => h⟩
            clear hx
            obtain ⟨x1, x2⟩ := hxr
            have hst := (Array.getElem?_eq_some_iff.1 HKT.out).1
            by_cases r : -2147483648 ≤ x ∧ x ≤ 2147483647
            · obtain ⟨r1, r2⟩ := r
              have ew : wrap32 x = x := by unfold wrap32; omega
              obtain ⟨T, hT⟩ : ∃ T : ByteArray, ⟨(textL op x).toArray⟩ = T := ⟨_, rfl⟩
              have HTX : Hid (∀ w, Calls Tryd.prog 14 #[.agg #[.int .i64 op, .int .i32 x]] w fun e w' => e = .returned (.string T) ∧ Below w.heap.size w w') := Lib.hid fun w => by rw [← hT]; exact refText_any op x w ⟨r1, r2⟩
              have HKX := Lib.hid (HK.out x)
              rw [hT] at HKX
              clear hT
              have hn5 := heap_alloc_new wr (.cells #[.int .i64 op, .int .i32 x] 23)
              have hb5 := below_alloc wr (.cells #[.int .i64 op, .int .i32 x] 23)
              obtain ⟨w5, hw5⟩ : ∃ w5, wr.alloc (.cells #[.int .i64 op, .int .i32 x] 23) = w5 := ⟨_, rfl⟩
              obtain ⟨t4, ht4⟩ : ∃ t4, wr.heap.size = t4 := ⟨_, rfl⟩
              rw [hw5] at hn5 hb5
              rw [ht4] at hn5
              have B5 := Lib.hid (nextB HKB.out hb5)
              have HT5 := Lib.hid ((hb5.block t hst).trans HKT.out)
              have HQ5 := Lib.hid ((hb5.block q (Array.getElem?_eq_some_iff.1 HKQ.out).1).trans HKQ.out)
              have HI5 := Lib.hid hn5
              have i0 : w5.cell? ⟨t4, 0, none⟩ = some (.int .i64 op) := cell_blk hn5 0
              have i1 : w5.cell? ⟨t4, 1, none⟩ = some (.int .i32 x) := cell_blk hn5 1
              clear hn5 hb5 hst HKT HKQ HKB
              go_wp2_with fail
              refine (HTX.out w5).mono ?_
              rintro e w6 ⟨rfl, hb6⟩
              clear hw5 ht4 i0 i1 hcx
              have B6 := Lib.hid (nextB B5.out hb6)
              have hi6 := (hb6.block t4 (Array.getElem?_eq_some_iff.1 HI5.out).1).trans HI5.out
              have hq6 := (hb6.block q (Array.getElem?_eq_some_iff.1 HQ5.out).1).trans HQ5.out
              have HT6 := Lib.hid ((hb6.block t (Array.getElem?_eq_some_iff.1 HT5.out).1).trans HT5.out)
              have HQ6 := Lib.hid hq6
              by_cases hTs : T = s
              · have hok := HKX.out.2 ⟨⟨r1, r2⟩, hTs⟩
                obtain ⟨eok, eX⟩ := hyes.out x h0 hok
                subst hTs
                have hbe : (T.toList == T.toList) = true := beq_self_eq_true _
                have i0 : w6.cell? ⟨t4, 0, none⟩ = some (.int .i64 op) := cell_blk hi6 0
                have i1 : w6.cell? ⟨t4, 1, none⟩ = some (.int .i32 x) := cell_blk hi6 1
                have c0 : w6.cell? ⟨q, 0, none⟩ = some (.int .i64 0) := cell_blk hq6 0
                have c1 : w6.cell? ⟨q, 1, none⟩ = some (.int .i32 0) := cell_blk hq6 1
                have f0 : w6.frozen? ⟨q, 0, none⟩ = false := frozen_blk hq6 0
                have f1 : w6.frozen? ⟨q, 1, none⟩ = false := frozen_blk hq6 1
                have HEX := Lib.hid eX
                subst eok
                clear hok hi6 hq6 hb6 eX HKX HTX hyes hback hno HK
                go_wp2_with fail
                try simp only [Exit.inBlock, Exit.then]
                have hset : ((w6.setCell ⟨q, 0, none⟩ (.int .i64 op)).setCell ⟨q, 1, none⟩ (.int .i32 x)).heap[q]? = some (.cells #[.int .i64 op, .int .i32 x] 23 (0, 0)) := by simpa using set_blk (set_blk HQ6.out 0 (.int .i64 op)) 1 (.int .i32 x)
                refine ret_instr2 rfl rfl rfl hset ?_
                refine ⟨?_, ((B6.out.setCell (p := ⟨q, 0, none⟩) hle2.out _).setCell (p := ⟨q, 1, none⟩) hle2.out _)⟩
                rw [HEX.out]; rfl
              · have hne : ¬ T.toList = s.toList := fun e => hTs (WideShapes.bytes_inj (by rw [← ByteArray.toList_eq, ← ByteArray.toList_eq]; exact e))
                have hbe : (T.toList == s.toList) = false := by simpa using hne
                have hok : okx x = false := by
                  cases h : okx x with
                  | false => rfl
                  | true => exact absurd (HKX.out.1 h).2 hTs
                obtain ⟨g1, g2⟩ := HFF.out hok
                have G1 := Lib.hid g1; have G2 := Lib.hid g2
                have i0 : w6.cell? ⟨t4, 0, none⟩ = some (.int .i64 op) := cell_blk hi6 0
                have i1 : w6.cell? ⟨t4, 1, none⟩ = some (.int .i32 x) := cell_blk hi6 1
                clear hok hi6 hq6 hb6 hTs hne HKX HTX g1 g2
                go_wp2_with fail
                go_roundw
                case rel => exact ⟨k + 1, by omega, by go_num, G1.out, G2.out, HT6.out, HQ6.out, B6.out⟩
                case measure => simp [intOf]; omega
            · have hok : okx x = false := by
                cases h : okx x with
                | false => rfl
                | true => exact absurd ((HK.out x).1 h).1 r
              obtain ⟨g1, g2⟩ := HFF.out hok
              have G1 := Lib.hid g1; have G2 := Lib.hid g2
              clear hok g1 g2
              by_cases r1 : -2147483648 ≤ x
              · have r2 : ¬ x ≤ 2147483647 := by omega
                clear r
                go_wp2_with fail
                go_roundw
                case rel => exact ⟨k + 1, by omega, by go_num, G1.out, G2.out, HKT.out, HKQ.out, HKB.out⟩
                case measure => simp [intOf]; omega
              · clear r
                go_wp2_with fail
                go_roundw
                case rel => exact ⟨k + 1, by omega, by go_num, G1.out, G2.out, HKT.out, HKQ.out, HKB.out⟩
                case measure => simp [intOf]; omega
          · obtain rfl : k = 2 := by omega
            have eok : ok = false := hback.out (HK0.out (by omega)) (HK1.out (by omega))
            subst eok
            have c0 : wr.cell? ⟨q, 0, none⟩ = some (.int .i64 0) := cell_blk HKQ.out 0
            have c1 : wr.cell? ⟨q, 1, none⟩ = some (.int .i32 0) := cell_blk HKQ.out 1
            have f0 : wr.frozen? ⟨q, 0, none⟩ = false := frozen_blk HKQ.out 0
            have f1 : wr.frozen? ⟨q, 1, none⟩ = false := frozen_blk HKQ.out 1
            go_wp2_with fail
            try simp only [Exit.inBlock, Exit.then]
            have hset := set_blk (set_blk HKQ.out 0 (.int .i64 0)) 1 (.int .i32 0)
            refine ret_instr2 rfl rfl rfl hset ?_
            exact ⟨rfl, (HKB.out.setCell (p := ⟨q, 0, none⟩) hle2.out _).setCell (p := ⟨q, 1, none⟩) hle2.out _⟩

end Go.Proofs.YtmcniddpjpbghaaDoor
