/- FutureQuotas returns true for every input and changes nothing: exactly the number of futures given by the quota can be created at each label, and All has an element for each quota. No condition. -/
import Derived.Test.YtboelofkbhgmfaaKn13
import Derived.Test.YtboelofkbhgmfaaLaw
import Derived.Test.YtboelofkbhgmfaaBytV
import Derived.IntWalk
import Derived.Deep.QuietTactic
import Derived.BigQuiet
namespace Go.Proofs.Ytboelofkbhgmfaa.futureQuotas
set_option maxRecDepth 100000
open Go.RowKit Go.ChangeShapes Go.WideShapes Go.ChangeAt

def qv (x : Int) : Int := x % 6 - 1
theorem quiet_flip {f : FuncId} {args : Array Value} {w : World} {v : Value} (h : Calls Try.prog f args w fun e w' => e = .returned v ∧ w = w') : Calls Try.prog f args w fun e w' => e = .returned v ∧ w' = w :=
  h.mono fun _ _ ⟨he, hw⟩ => ⟨he, hw.symm⟩
theorem quo_at {lv : List Int} {i : Nat} (h : i < lv.length) (h16 : i < 16) : (quotasZ lv)[i]? = some (clampZ lv[i]) := by simp [quotasZ, h, h16]
/-- What holds of the loops: i labels are done, of the next one k have been asked for. -/
structure QtK (w wr : World) (S : Nat → Prop) (lo a : Nat) (lv : List Int) (Ls : List (List FutX)) (i k : Nat) : Prop where
  fu : FuV wr S a (quotasZ lv) Ls
  len : Ls.length = min lv.length 16
  nil : ∀ j (h : j < Ls.length), i < j → Ls[j] = []
  cur : ∀ (h : i < Ls.length) (h' : i < lv.length), Ls[i].length = min k (clampZ lv[i]).toNat
  low : ∀ i, S i → lo ≤ i
  bel : Below lo w wr
  sz : lo ≤ wr.heap.size
section
variable {w wr w5 : World} {S S5 : Nat → Prop} {lo a i k : Nat} {lv : List Int} {Ls : List (List FutX)}
/-- Make. -/
theorem QtK.made (h : QtK w wr S lo a lv Ls i k) (hi : i < lv.length) (x : FutX) (h5 : FuV w5 S5 a (quotasZ lv) (mkL (quotasZ lv) Ls (i : Int) x)) (t5 : Stp S S5 wr w5) : QtK w w5 S5 lo a lv (mkL (quotasZ lv) Ls (i : Int) x) i (k + 1) := by
  have hb := h.fu.1
  have hlow := t5.low h.low h.sz
  refine ⟨h5, by rw [mkL_length]; exact h.len, ?_, ?_, hlow, h.bel.trans (t5.below h.low h.sz), Nat.le_trans h.sz t5.frm.size⟩
  · intro j hj hij
    cases hm : mkB (quotasZ lv) Ls (i : Int) with
    | false => simp only [mkL_no hm x]; exact h.nil j (by simpa [mkL_no hm x] using hj) hij
    | true =>
      obtain ⟨k', e, hk, _⟩ := mkB_yes hm hb.q
      have hk2 : i < Ls.length := by omega
      simp only [mkL_in hm hk2 x]
      rw [List.getElem_set_ne (by omega)]
      exact h.nil j (by simpa [mkL_in hm hk2 x] using hj) hij
  · intro hil hil2
    have hiL : i < Ls.length := by rw [mkL_length] at hil; exact hil
    have hc := h.cur hiL hil2
    have h16 : i < 16 := by have := h.len; omega
    have hq := quo_at hil2 h16
    have hqi : i < (quotasZ lv).length := (List.getElem?_eq_some_iff.1 hq).1
    have hqe : (quotasZ lv)[i] = clampZ lv[i] := (List.getElem?_eq_some_iff.1 hq).2
    have hcl := clampZ_bd lv[i]
    cases hm : mkB (quotasZ lv) Ls (i : Int) with
    | false =>
      simp only [mkL_no hm x]
      rw [mkB_in hiL hb.q, hqe] at hm
      simp at hm
      omega
    | true =>
      simp only [mkL_in hm hiL x]
      rw [List.getElem_set_self]
      rw [mkB_in hiL hb.q, hqe] at hm
      simp at hm ⊢
      omega
theorem QtK.next (h : QtK w wr S lo a lv Ls i k) (hi : i < lv.length) : QtK w wr S lo a lv Ls (i + 1) 0 :=
  ⟨h.fu, h.len, fun j hj hij => h.nil j hj (by omega), fun hj _ => by rw [h.nil (i + 1) hj (by omega)]; simp, h.low, h.bel, h.sz⟩
/-- What Make answers. -/
theorem QtK.mkt (h : QtK w wr S lo a lv Ls i k) (hi : i < lv.length) {c : Nat} (hc : clampZ lv[i] = (c : Int)) :
    mkB (quotasZ lv) Ls (i : Int) = decide (i < 16 ∧ k < c) ∧ (i < 16 ∧ k < c → mkId (quotasZ lv) Ls (i : Int) = (i : Int) * 65536 + k) := by
  have hb := h.fu.1
  by_cases h16 : i < 16
  · have hiL : i < Ls.length := by have := h.len; omega
    have hcu := h.cur hiL hi
    rw [hc, Int.toNat_natCast] at hcu
    have hq := quo_at hi h16
    have hqe : (quotasZ lv)[i]'(List.getElem?_eq_some_iff.1 hq).1 = clampZ lv[i] := (List.getElem?_eq_some_iff.1 hq).2
    have hm : mkB (quotasZ lv) Ls (i : Int) = decide (i < 16 ∧ k < c) := by
      rw [mkB_in hiL hb.q, hqe, hc]
      by_cases hk : k < c
      · rw [decide_eq_true (by omega : ((Ls[i].length : Int) < (c : Int))), decide_eq_true ⟨h16, hk⟩]
      · rw [decide_eq_false (by omega : ¬ ((Ls[i].length : Int) < (c : Int))), decide_eq_false (by omega)]
    refine ⟨hm, fun hk => ?_⟩
    rw [mkId_in (by rw [hm, decide_eq_true hk]) hiL]
    omega
  · have hm : mkB (quotasZ lv) Ls (i : Int) = false := mkB_out (.inr (by have := h.len; omega))
    exact ⟨by rw [hm, decide_eq_false (by omega)], fun hk => by omega⟩
theorem QtK.cnt (h : QtK w wr S lo a lv Ls i k) (hi : i < lv.length) (h16 : i < 16) {c : Nat} (hc : clampZ lv[i] = (c : Int)) : cntZ Ls (i : Int) = min k c := by
  have hiL : i < Ls.length := by have := h.len; omega
  rw [cntZ_in hiL, h.cur hiL hi, hc, Int.toNat_natCast]
end

set_option maxRecDepth 100000 in
set_option maxHeartbeats 16000000 in
theorem walk (sv : Value) (l : List Int) (n : Nat) (w : World) (hs : BytV w w.heap.size sv l) (hm : l.length ≤ maxLen) (hy : IsByt l) (hn : n ≤ 255) :
    Calls Try.prog 9 #[sv, .int .u8 n] w fun e w' => e = .returned (.bool true) ∧ Below w.heap.size w w' := by
  obtain ⟨A, c, rfl, hc, hL⟩ := hs
  have HL := Lib.hid hL; have HY := Lib.hid hy
  obtain ⟨N, hN⟩ : ∃ n, l.length = n := ⟨_, rfl⟩
  have HN := Lib.hid hN
  rw [hN] at hm hc ⊢
  unfold maxLen at hm
  clear hL hy hN
  by_cases h20 : 20 < N
  · have z4 : decide ((20 : Int) < (N : Int)) = true := by simp; omega
    go_enter Try.func9, Try.ntmps9
    go_wp2_with fail
    refine (known13_any w).mono ?_
    rintro e w1 ⟨rfl, hb1⟩
    go_wp2_with fail
    go_ret
    exact ⟨rfl, hb1⟩
  have z4 : decide ((20 : Int) < (N : Int)) = false := by simp; omega
  have hN20 : N ≤ 20 := by omega
  obtain ⟨m, hmm⟩ : ∃ m : Nat, m = n % 8 := ⟨_, rfl⟩
  have em : (n : Int) % 8 = (m : Int) := by omega
  have hm8 : m < 8 := by omega
  clear hmm h20
  go_enter Try.func9, Try.ntmps9
  go_wp2_with fail
  refine (known13_any w).mono ?_
  rintro e w1 ⟨rfl, hb1⟩
  have B1 := Lib.hid hb1; clear hb1
  go_wp2_with fail
  clear z4
  go_loopw [5, 6] (fun v i wr => ∃ k : Nat, k ≤ N ∧ i = .int .i64 k ∧ OwnI64 wr w.heap.size v ((l.take k).map qv) ∧ Below w.heap.size w wr) (fun _ i _ => N - (intOf i).toNat)
  case atStart => exact ⟨0, Nat.zero_le _, rfl, OwnI64.nil _ _, B1.out⟩
  case round =>
    obtain ⟨k, hk, rfl, ho, hb⟩ := hrel
    have HO := Lib.hid ho; have HB := Lib.hid hb
    have hlen : ((l.take k).map qv).length = k := by rw [List.length_map, List.length_take, HN.out]; omega
    obtain ⟨Av, cv, hv⟩ : ∃ A c, u5 = .slice A k c := by
      have h2 := ho.2
      rw [hlen] at h2
      rcases h2 with ⟨e1, e2⟩ | ⟨g, cap, cur, e1, _⟩
      · exact ⟨none, 0, by rw [e1, e2]⟩
      · exact ⟨_, cap, e1⟩
    subst hv
    have HLEN := Lib.hid hlen
    unfold OwnI64 at ho
    rw [hlen] at ho
    have HO2 := Lib.hid ho
    have hsz := hb.size
    clear ho hb hlen
    by_cases hkn : k < N
    · have hkl : k < l.length := by rw [HN.out]; exact hkn
      obtain ⟨b, off, rfl, hb, d0⟩ := lie_u8 HL.out hkl
      have d1 : wr.cell? ⟨b, off + k, none⟩ = some (.int .u8 l[k]) := by rw [HB.out.cell (p := ⟨b, off + k, none⟩) hb, d0]
      have hby := HY.out l[k] (List.getElem_mem hkl)
      have HTK := Lib.hid (List.take_succ_eq_append_getElem hkl)
      clear d0
      generalize l[k] = y at *
      obtain ⟨z, hz⟩ : ∃ z, y % 6 - 1 = z := ⟨_, rfl⟩
      have HZ : Hid (qv y = z) := Lib.hid hz
      have i1 : (0 : Int) ≤ (k : Int) ∧ (k : Int) < N := by omega
      have hz2 : -1 ≤ z ∧ z ≤ 4 := by omega
      go_wp2_with (at_builtin; go_must (refine wpList_append_new 22 3 (.int .i64 0) 1 8 Try.underlying22 inf_int rfl (by decide) (by decide) rfl (.tmp 23) (.tmp 31) rfl w.heap.size _ _ _ _ [.int .i64 z] rfl rfl HO2.out rfl rfl ?c1 ?c2 ?c3 ?_))
      case c1 => intro u hu; obtain rfl : u = .int .i64 z := by simpa using hu
                 rfl
      case c2 => omega
      case c3 => exact hsz
      intro v3 w3 ho3 hg3 _
      rw [← List.map_take] at ho3
      have O3 : Hid (OwnI64 w3 w.heap.size v3 ((l.take (k + 1)).map qv)) := Lib.hid (OwnI64.snoc (x := z) (l := (l.take k).map qv) (by rw [HLEN.out]) ho3 (by rw [HTK.out, List.map_append, List.map_cons, List.map_nil, HZ.out]))
      have B3 : Hid (Below w.heap.size w w3) := Lib.hid (HB.out.grown hg3 HB.out.size (fun j hj => (HO2.out.lt _ hj).1))
      clear ho3 hg3
      go_wp2_with fail
      go_roundw
      case rel => exact ⟨k + 1, by omega, by go_num, O3.out, B3.out⟩
      case measure => simp [intOf]; omega
    · obtain rfl : k = N := by omega
      obtain ⟨lv, hlv⟩ : ∃ lv, (l.take k).map qv = lv := ⟨_, rfl⟩
      rw [hlv] at HO HLEN
      have HBD : Hid (∀ x ∈ lv, -1 ≤ x ∧ x ≤ 4) := Lib.hid (by
        rw [← hlv]
        intro x hx
        obtain ⟨y, _, rfl⟩ := List.mem_map.1 hx
        unfold qv; omega)
      have HNV : Hid (NumV wr wr.heap.size (.slice Av k cv) lv) := Lib.hid HO.out.num
      obtain ⟨w2, rfl⟩ : ∃ w2 : World, w2 = wr := ⟨_, rfl⟩
      have HLL : Hid (∀ i (h : i < lv.length), ∃ b off, Av = some ⟨b, off, none⟩ ∧ b < w2.heap.size ∧ w2.cell? ⟨b, off + i, none⟩ = some (.int .i64 lv[i])) := Lib.hid (by
        obtain ⟨A', c', e, _, hl⟩ := HNV.out
        injection e with e1 _ _
        subst e1
        exact fun i hi => lie_int hl hi)
      have HAN := Lib.hid (fuNew_any (.slice Av k cv) lv w2 HNV.out (by rw [HLEN.out]; omega))
      clear hlv HO2 hkn
      go_wp2_with fail
      with_reducible refine HAN.out.mono ?_
      rintro e w3 ⟨a, rfl, hA, hb3⟩
      have H0 : Hid (∃ S Ls, QtK w2 w3 S w2.heap.size a lv Ls 0 0) := Lib.hid ⟨_, _, hA, by simp, fun j hj _ => by simp, fun h h' => by simp, fun i h => h.1, hb3, hb3.size⟩
      clear hA hb3 HAN
      go_wp2_with fail
      go_loopw [8] (fun i wr => ∃ q : Nat, ∃ S Ls, q ≤ k ∧ i = .int .i64 q ∧ QtK w2 wr S w2.heap.size a lv Ls q 0) (fun i _ => k - (intOf i).toNat)
      case atStart => obtain ⟨S, Ls, h⟩ := H0.out; exact ⟨0, S, Ls, Nat.zero_le _, rfl, h⟩
      case round =>
        clear H0
        obtain ⟨q, S0, Ls0, hq, rfl, hK0⟩ := hrel
        have HK0 := Lib.hid hK0
        clear hK0
        by_cases hqk : q < k
        · have hql : q < lv.length := by rw [HLEN.out]; exact hqk
          obtain ⟨lb, lo, rfl, hlb, e0⟩ := HLL.out q hql
          have hbd := HBD.out lv[q] (List.getElem_mem hql)
          obtain ⟨cc, hcc⟩ : ∃ cc : Nat, clampZ lv[q] = (cc : Int) := ⟨(clampZ lv[q]).toNat, by have := clampZ_bd lv[q]; omega⟩
          have hc4 : cc ≤ 4 := by unfold clampZ at hcc; omega
          have hmx : (if lv[q] < 0 then (0 : Int) else lv[q]) = (cc : Int) := by unfold clampZ at hcc; split <;> omega
          have HMK := Lib.hid (fun (wr : World) (S : Nat → Prop) (Ls : List (List FutX)) (j : Nat) (h : QtK w2 wr S w2.heap.size a lv Ls q j) => h.mkt hql hcc)
          have HCT := Lib.hid (fun (wr : World) (S : Nat → Prop) (Ls : List (List FutX)) (j : Nat) (h : QtK w2 wr S w2.heap.size a lv Ls q j) h16 => h.cnt hql h16 hcc)
          have HQL := Lib.hid hql
          generalize lv[q] = x at *
          clear hcc hbd hql
          have i1 : (0 : Int) ≤ (q : Int) ∧ (q : Int) < k := by omega
          have HE0 := Lib.hid e0
          clear e0
          go_wp2_with fail
          go_loopw [9] (fun i wr => ∃ j : Nat, ∃ S Ls, j ≤ m ∧ i = .int .i64 j ∧ QtK w2 wr S w2.heap.size a lv Ls q j) (fun i _ => m - (intOf i).toNat)
          case atStart => exact ⟨0, S0, Ls0, Nat.zero_le _, rfl, HK0.out⟩
          case round =>
            clear HK0
            obtain ⟨j, S, Ls, hj, rfl, hK⟩ := hrel
            have HK := Lib.hid hK
            clear hK
            have e1 : wr.cell? ⟨lb, lo + q, none⟩ = some (.int .i64 x) := (HK.out.bel.cell (p := ⟨lb, lo + q, none⟩) hlb).trans HE0.out
            have hsz2 : w2.heap.size ≤ wr.heap.size := HK.out.sz
            by_cases hjm : j < m
            · have HM := Lib.hid (fuMake_any HK.out.fu (q : Int) 3 (by omega))
              unfold FuMk at HM
              rw [(HMK.out wr S Ls j HK.out).1] at HM
              have HID := Lib.hid (HMK.out wr S Ls j HK.out).2
              obtain ⟨idz, hidz⟩ : ∃ idz, mkId (quotasZ lv) Ls (q : Int) = idz := ⟨_, rfl⟩
              rw [hidz] at HM HID
              clear hidz
              by_cases h16 : q < 16
              · by_cases hkc : j < cc
                · rw [decide_eq_true ⟨h16, hkc⟩] at HM
                  have hid := HID.out ⟨h16, hkc⟩
                  have z1 : decide ((q : Int) < 16) = true := by simp; omega
                  have z2 : decide ((j : Int) < (cc : Int)) = true := by simp; omega
                  have z2' : decide (j < cc) = true := by simp; omega
                  have r1 : wrap64 ((q : Int) * 65536) = (q : Int) * 65536 := by unfold wrap64; omega
                  have hb0 : 0 ≤ idz ∧ idz ≤ 1000000 := by omega
                  have r2 : (idz != (q : Int) * 65536 + (j : Int)) = false := by rw [hid]; simp
                  clear hid
                  clear HID
                  go_wp2_with fail
                  refine HM.out.mono ?_
                  rintro e w5 ⟨rfl, S5, h5, t5⟩
                  have HF := Lib.hid (HK.out.made HQL.out _ h5 t5)
                  have e5 : w5.cell? ⟨lb, lo + q, none⟩ = some (.int .i64 x) := (HF.out.bel.cell (p := ⟨lb, lo + q, none⟩) hlb).trans HE0.out
                  clear h5 t5 e1
                  go_wp2_with fail
                  go_roundw
                  case rel => exact ⟨j + 1, S5, _, by omega, by go_num, HF.out⟩
                  case measure => simp [intOf]; omega
                · rw [decide_eq_false (by omega : ¬ (q < 16 ∧ j < cc))] at HM
                  have z1 : decide ((q : Int) < 16) = true := by simp; omega
                  have z2 : decide ((j : Int) < (cc : Int)) = false := by simp; omega
                  have z2' : decide (j < cc) = false := by simp; omega
                  clear HID
                  go_wp2_with fail
                  refine HM.out.mono ?_
                  rintro e w5 ⟨rfl, S5, h5, t5⟩
                  have HF := Lib.hid (HK.out.made HQL.out _ h5 t5)
                  have e5 : w5.cell? ⟨lb, lo + q, none⟩ = some (.int .i64 x) := (HF.out.bel.cell (p := ⟨lb, lo + q, none⟩) hlb).trans HE0.out
                  clear h5 t5 e1
                  go_wp2_with fail
                  go_roundw
                  case rel => exact ⟨j + 1, S5, _, by omega, by go_num, HF.out⟩
                  case measure => simp [intOf]; omega
              · rw [decide_eq_false (by omega : ¬ (q < 16 ∧ j < cc))] at HM
                have z1 : decide ((q : Int) < 16) = false := by simp; omega
                clear HID
                go_wp2_with fail
                refine HM.out.mono ?_
                rintro e w5 ⟨rfl, S5, h5, t5⟩
                have HF := Lib.hid (HK.out.made HQL.out _ h5 t5)
                have e5 : w5.cell? ⟨lb, lo + q, none⟩ = some (.int .i64 x) := (HF.out.bel.cell (p := ⟨lb, lo + q, none⟩) hlb).trans HE0.out
                clear h5 t5 e1
                go_wp2_with fail
                go_roundw
                case rel => exact ⟨j + 1, S5, _, by omega, by go_num, HF.out⟩
                case measure => simp [intOf]; omega
            · obtain rfl : j = m := by omega
              by_cases h16 : q < 16
              · have z1 : decide ((q : Int) < 16) = true := by simp; omega
                have HC := Lib.hid (fun n => quiet_flip (fuCount_any (HK.out.fu.below (below_drewN (Below.refl _ _) n)) (q : Int)))
                rw [HCT.out wr S Ls j HK.out h16] at HC
                obtain ⟨mc, hmc⟩ : ∃ mc, min j cc = mc := ⟨_, rfl⟩
                rw [hmc] at HC
                have hmn : (if (cc : Int) < (j : Int) then (cc : Int) else (j : Int)) = (mc : Int) := by split <;> omega
                have r1 : ((mc : Int) != (mc : Int)) = false := by simp
                have HNX := Lib.hid (HK.out.next HQL.out)
                clear hmc
                go_wp2_with fail
                go_quiet ((go_at_call 38; with_reducible exact Calls.quiet_of_same (HC.out _)))
                go_wp2_with fail
                go_roundw
                case rel => exact ⟨q + 1, S, Ls, by omega, by go_num, ⟨HNX.out.fu.below (below_drewN (Below.refl _ _) _), HNX.out.len, HNX.out.nil, HNX.out.cur, HNX.out.low, below_drewN HNX.out.bel _, HNX.out.sz⟩⟩
                case measure => simp [intOf]; omega
              · have z1 : decide ((q : Int) < 16) = false := by simp; omega
                have HNX := Lib.hid (HK.out.next HQL.out)
                go_wp2_with fail
                go_quiet (fail)
                go_wp2_with fail
                go_roundw
                case rel => exact ⟨q + 1, S, Ls, by omega, by go_num, ⟨HNX.out.fu.below (below_drewN (Below.refl _ _) _), HNX.out.len, HNX.out.nil, HNX.out.cur, HNX.out.low, below_drewN HNX.out.bel _, HNX.out.sz⟩⟩
                case measure => simp [intOf]; omega
        · obtain rfl : q = k := by omega
          have HALL := Lib.hid (fuAll_any HK0.out.fu)
          obtain ⟨t16, ht⟩ : ∃ t : Nat, min q 16 = t := ⟨_, rfl⟩
          have hLs : Ls0.length = t16 := by rw [HK0.out.len, HLEN.out]; exact ht
          have HLS := Lib.hid hLs
          have hmn : (if (16 : Int) < (q : Int) then (16 : Int) else (q : Int)) = (t16 : Int) := by split <;> omega
          have r1 : ((t16 : Int) == (t16 : Int)) = true := beq_self_eq_true _
          clear hLs ht
          go_wp2_with fail
          refine HALL.out.mono ?_
          rintro e w9 ⟨⟨v9, rfl, h9⟩, b9⟩
          obtain ⟨tb, rfl, _⟩ := h9.row
          rw [HLS.out]
          have HF : Hid (Below w.heap.size w w9) := Lib.hid (HB.out.trans ((HK0.out.bel.trans (b9.mono HK0.out.sz)).mono HB.out.size))
          clear h9 b9
          go_wp2_with fail
          go_ret
          exact ⟨rfl, HF.out⟩

/- The claim. -/

set_option maxRecDepth 100000 in
theorem lifted (os : Os) (started : os.Started) (H : Type) (enc : TypeId × Value → H) :
    ReturnsInHanded {} Try.checked os 9 .any (Rows.futureQuotasSpec.pre6 enc Try.prog Try.f9 Rows.futureQuotasRow.domain false) (Rows.futureQuotasSpec.post enc Try.prog Try.f9 false true false false) := by
  refine returnsInHanded_of_change (C := Try.checked) ownKnobs started (by kernel_rfl) Try.func9
    (ChangeSpec.witness6 (enc := enc) (C := Try.checked) false ⟨#[], #[.slice none 0 0, .int .u8 0], []⟩ 8 (by kernel_rfl) (by kernel_rfl) (by kernel_rfl) (by kernel_rfl)) ?_
  intro W base args ds gs before hval hW _ _
  refine law_contract rfl rfl (fun ds h => by match ds, h with | [d1, d2], _ => rfl) (by decide +kernel) hW ?_
  obtain ⟨p, q, hA0, _⟩ := hW
  have hA : DataW.TrodAll enc Try.prog W 0 (fun _ => true) true Try.f9.params.toList args.toList ds p := hA0
  have hval' : ∀ (j : Nat) t v, Try.f9.params[j]? = some t → args[j]? = some v → Value.okWide Try.prog W .any base t v := hval
  rw [Try.params9] at hA hval'
  obtain ⟨v0, vs0, d0, ds0, p0, q0, hargs, rfl, rfl, h0, r0⟩ := trodAll_cons hA
  obtain ⟨v1, vs1, d1, ds1, p1, q1, rfl, rfl, rfl, h1, r1⟩ := trodAll_cons r0
  obtain ⟨rfl, rfl, rfl⟩ := trodAll_nil r1
  obtain rfl : args = #[v0, v1] := by cases args; simp_all
  obtain ⟨l0, h0, m0, y0⟩ := open_bytv (hval' 0 _ v0 rfl rfl) h0
  obtain ⟨z1, rfl, rfl, rfl, w1⟩ := open_int Try.underlying5 (hval' 1 _ v1 rfl rfl) h1
  have b1 : 0 ≤ z1 ∧ z1 ≤ 255 := by simpa [Lit.wf, IntKind.min, IntKind.max, IntKind.signed, IntKind.bits] using w1
  obtain ⟨a1, rfl⟩ : ∃ n : Nat, z1 = n := ⟨z1.toNat, by omega⟩
  exact walk v0 l0 a1 W h0 m0 y0 (by omega)

theorem proved : Rows.FutureQuotasSaid :=
  OpenClaim.holds_of_wide 9 Try.f9 rfl rfl rfl rfl rfl rfl rfl ⟨rfl, rfl, rfl, rfl, rfl⟩ rfl rfl rfl rfl rfl (by kernel_rfl) Try.func9 (by kernel_rfl)
    (of_decide_eq_true (by kernel_rfl)) (by unfold Func.isWrapper; first | (rw [if_pos (by decide +kernel)]; kernel_rfl) | (rw [if_neg (by decide +kernel)]; exact ⟨rfl, rfl⟩))
    (fun os started H enc _ => lifted os started H enc)

end Go.Proofs.Ytboelofkbhgmfaa.futureQuotas
