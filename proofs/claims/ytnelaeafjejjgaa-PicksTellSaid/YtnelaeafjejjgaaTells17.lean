/- PicksTell returns true for every input and changes nothing: Next and Left return the documented results for every sequence of calls. No condition. -/
import Derived.Test.YtnelaeafjejjgaaKnown17
import Derived.Test.YtnelaeafjejjgaaRegion
import Derived.Test.YtnelaeafjejjgaaArgI
namespace Go.Proofs.Ytnelaeafjejjgaa.picksTell
set_option maxRecDepth 100000
open Go.RowKit Go.ChangeShapes Go.WideShapes Go.ChangeAt

theorem i64_and7 (n : Int) : bits .and .i64 n 7 = n % 8 := by
  have h7 : (BitVec.ofInt 64 7).toNat = 2 ^ 3 - 1 := by decide
  have key : (BitVec.ofInt 64 n &&& BitVec.ofInt 64 7).toNat = (n % ((2 ^ 64 : Nat) : Int)).toNat % 2 ^ 3 := by
    rw [BitVec.toNat_and, BitVec.toNat_ofInt, h7, Nat.and_two_pow_sub_one_eq_mod]
  show IntKind.i64.wrap ((BitVec.ofInt 64 n &&& BitVec.ofInt 64 7).toNat : Nat) = n % 8
  rw [key, IntKind.wrap_i64]
  omega

theorem known_keepX {val : Nat → Value} {X : Nat → Value → World → Prop} {sp : List Nat} {i : Nat} {u : Value} {w w' : World} (h : Reg.Known val X sp i u w) (f : X i u w → X i u w') : Reg.Known val X sp i u w' :=
  ⟨h.plain, fun hs => f (h.other hs)⟩
/-- What the struct at q begins with: a slice of n. -/
def Top (w : World) (q n : Nat) : Prop := ∃ A c, w.cell? ⟨q, 0, none⟩ = some (.slice A n c)
def PtX (v : Int) (q n : Nat) (i : Nat) (u : Value) (w : World) : Prop := match i with
  | 3 => u = .int .i64 v ∧ Top w q n
  | 5 => u = .bool false ∧ Top w q n
  | _ => ∃ A c, u = .slice A n c
theorem PtX.next {v : Int} {q n i : Nat} {u : Value} {w w' : World} (h : PtX v q n i u w) (ht : Top w' q n) : PtX v q n i u w' := by
  unfold PtX at h ⊢
  split at h
  · exact ⟨h.1, ht⟩
  · exact ⟨h.1, ht⟩
  · exact h
theorem _root_.Go.Proofs.Ytnelaeafjejjgaa.RPB.top {w : World} {B q : Nat} {l : List Int} {s n : Nat} (h : RPB w B q l s) (hn : l.length = n) : Top w q n := by
  obtain ⟨A, c, hb, _⟩ := h.blk
  exact ⟨A, c, by rw [cell_blk hb]; rw [hn]; rfl⟩
/-- Both choices: the program's has gone on; the reference's not yet, or as well. -/
def PtS (W : World) (B lo p g q : Nat) (l : List Int) (s : Nat) (l2 : List Int) (s2 : Nat) (k : Nat) (w : World) : Prop :=
  PicksB w lo p g l2 s2 ∧ (match k with | 0 => RPB w B q l s | _ => RPB w B q l2 s2) ∧ Below W.heap.size W w
section
variable {W w w' : World} {B lo p g q k : Nat} {l l2 : List Int} {s s2 : Nat}
theorem PtS.picks (h : PtS W B lo p g q l s l2 s2 k w) : PicksB w lo p g l2 s2 := h.1
theorem PtS.zero (h : PtS W B lo p g q l s l2 s2 0 w) : PtS W B lo p g q l s l2 s2 0 w.drew :=
  ⟨h.1.below (Below.refl _ _).drew, RPB.below h.2.1 (Below.refl _ _).drew, h.2.2.drew⟩
theorem PtS.one (h : PtS W B lo p g q l s l2 s2 0 w) (hq : RPB w' B q l2 s2) (hf : Frm (One q) w w') (hne : p < q ∧ g < q ∧ W.heap.size ≤ q) : PtS W B lo p g q l s l2 s2 1 w' :=
  ⟨h.1.keep hf (by show ¬ p = q; omega) (fun i hi => by show ¬ i = q; omega), hq, one_below h.2.2 hf hne.2.2⟩
end

def pt13Val (p q n m : Nat) (y v : Int) : Nat → Value
  | 0 => .int .i64 v
  | 1 => .pointer (some ⟨q, 0, none⟩)
  | 2 => .int .i64 y
  | 4 => .bool false
  | 6 => .pointer (some ⟨p, 0, none⟩)
  | 7 => .int .i64 (n : Int)
  | 8 => .pointer (some ⟨q, 0, none⟩)
  | 9 => .pointer (some ⟨q, 0, none⟩)
  | 10 => .pointer (some ⟨q, 0, none⟩)
  | 12 => .int .i64 (n : Int)
  | 13 => .bool false
  | 14 => .bool false
  | 15 => .bool false
  | 16 => .int .i64 v
  | 17 => .bool false
  | 18 => .bool false
  | 19 => .bool false
  | 20 => .int .i64 v
  | 21 => .int .i64 y
  | 22 => .int .i64 (m : Int)
  | 23 => .bool false
  | 24 => .bool false
  | _ => undef


def St (W wr : World) (B lo p g q N : Nat) (i : Value) : Prop := ∃ (k : Nat) (l : List Int) (s : Nat), k ≤ N ∧ i = .int .i64 k ∧ l.length ≤ 40 ∧ IsByt l ∧ s < 18446744073709551616 ∧ PicksB wr lo p g l s ∧ RPB wr B q l s ∧ Below W.heap.size W wr

set_option maxRecDepth 100000 in
set_option maxHeartbeats 16000000 in
theorem walk (lv nv : Value) (l0 ns : List Int) (s0 : Nat) (w : World) (hl : BytV w w.heap.size lv l0) (hmx : l0.length ≤ maxLen) (hy : IsByt l0) (hs : s0 < 18446744073709551616)
    (hns : IntsV w w.heap.size nv ns) (hr : ∀ x ∈ ns, -9223372036854775808 ≤ x ∧ x ≤ 9223372036854775807) (hmn : ns.length ≤ maxLen) :
    Calls Try.prog 9 #[lv, .int .u64 s0, nv] w fun e w' => e = .returned (.bool true) ∧ Below w.heap.size w w' := by
  have HLV := Lib.hid hl; have HY := Lib.hid hy
  obtain ⟨A0, c0', rfl, _, _⟩ := hl
  obtain ⟨A, c, rfl, hnl⟩ := hns
  have HNL := Lib.hid hnl; have HR := Lib.hid hr; clear hnl hr hy
  obtain ⟨n0, hn0⟩ : ∃ n, l0.length = n := ⟨_, rfl⟩
  obtain ⟨N, hN⟩ : ∃ n, ns.length = n := ⟨_, rfl⟩
  have HN0 := Lib.hid hn0; have HNN := Lib.hid hN
  rw [hN] at hmn ⊢; rw [hn0] at hmx HLV ⊢
  unfold maxLen at hmx hmn
  clear hn0 hN
  by_cases h40 : 40 < n0
  · go_enter Try.func9, Try.ntmps9
    go_wp2_with fail
    refine (known17_any w).mono ?_
    rintro e w1 ⟨rfl, hb1⟩
    go_wp2_with fail
    go_ret
    exact ⟨rfl, hb1⟩
  by_cases h60 : 60 < N
  · go_enter Try.func9, Try.ntmps9
    go_wp2_with fail
    refine (known17_any w).mono ?_
    rintro e w1 ⟨rfl, hb1⟩
    go_wp2_with fail
    go_ret
    exact ⟨rfl, hb1⟩
  have HP := Lib.hid (fun (w1 : World) (hb : Below w.heap.size w w1) => newPicks_any (.slice A0 n0 c0') l0 s0 w1 ((HLV.out.below hb).more hb.size) (by rw [HN0.out]; omega))
  have HQ0 := Lib.hid (fun (w1 : World) (hb : Below w.heap.size w w1) => newRP_any w.heap.size (.slice A0 n0 c0') l0 s0 w1 (HLV.out.below hb) hb.size)
  have H0 := Lib.hid (seed1_lt hs)
  obtain ⟨s, hs0⟩ : ∃ s, seed1 s0 = s := ⟨_, rfl⟩
  rw [hs0] at HP HQ0 H0
  clear hs hs0
  go_enter Try.func9, Try.ntmps9
  go_wp2_with fail
  refine (known17_any w).mono ?_
  rintro e w1 ⟨rfl, hb1⟩
  have B1 := Lib.hid hb1; clear hb1
  go_wp2_with fail
  refine (HP.out w1 B1.out).mono ?_
  rintro e w2 ⟨p, g, rfl, hp, hb⟩
  have P2 := Lib.hid hp; have B2 := Lib.hid (B1.out.trans (hb.mono B1.out.size)); have BB2 := Lib.hid hb
  clear hp hb
  go_wp2_with fail
  refine (HQ0.out w2 B2.out).mono ?_
  rintro e w3 ⟨q, rfl, hq, hqle, hb⟩
  have Q3 := Lib.hid hq; have P3 := Lib.hid (P2.out.below hb); have B3 := Lib.hid (BB2.out.trans (hb.mono BB2.out.size))
  have hpq : p < q := Nat.lt_of_lt_of_le P2.out.plt hqle
  have hpg := P2.out.lt
  have hglo := P2.out.lo
  have HQ : Hid (p < q ∧ g < q ∧ w1.heap.size ≤ q) := Lib.hid (by have := BB2.out.size; omega)
  have HBW : Hid (w.heap.size ≤ w1.heap.size) := Lib.hid B1.out.size
  clear hq hb hqle P2 B2 BB2 HP HQ0
  go_wp2_with fail
  go_loopw [9] (fun i wr => St w1 wr w.heap.size w1.heap.size p g q N i) (fun i _ => N - (intOf i).toNat)
  case atStart => exact ⟨0, l0, s, Nat.zero_le _, rfl, by rw [HN0.out]; omega, HY.out, H0.out, P3.out, Q3.out, B3.out⟩
  case round =>
    obtain ⟨k, l, s', hk, rfl, hll, hyl, hsl, hpl, hql, hbl⟩ := hrel
    clear P3 Q3 B3 H0
    have PP := Lib.hid hpl; have QQ := Lib.hid hql; have BL := Lib.hid hbl; have YL := Lib.hid hyl; have SL := Lib.hid hsl; have LL := Lib.hid hll
    clear hpl hql hbl hyl hsl hll
    by_cases hkn : k < N
    · have hkl : k < ns.length := by rw [HNN.out]; exact hkn
      obtain ⟨b, off, rfl, hb, cc1⟩ := lie_int HNL.out hkl
      have hx := HR.out ns[k] (List.getElem_mem hkl)
      have c2 : wr.cell? ⟨b, off + k, none⟩ = some (.int .i64 ns[k]) := by
        rw [BL.out.cell (p := ⟨b, off + k, none⟩) (by have := B1.out.size; show b < _; omega), B1.out.cell (p := ⟨b, off + k, none⟩) hb, cc1]
      clear cc1
      obtain ⟨x, hxx⟩ : ∃ x, ns[k] = x := ⟨_, rfl⟩
      rw [hxx] at c2 hx
      clear hxx
      have HX := Lib.hid hx; clear hx
      have hy : ∃ y : Int, (-9223372036854775808 ≤ y ∧ y ≤ 9223372036854775807) ∧ ((∃ z : Int, 0 ≤ z ∧ z ≤ 7 ∧ 0 < (k : Int) % 3 ∧ bits .and .i64 x 7 = z ∧ z + 1 = y) ∨ (¬ 0 < (k : Int) % 3 ∧ y = x)) := by
        by_cases h3 : 0 < (k : Int) % 3
        · exact ⟨x % 8 + 1, by omega, .inl ⟨x % 8, by omega, by omega, h3, i64_and7 x, rfl⟩⟩
        · exact ⟨x, HX.out, .inr ⟨h3, rfl⟩⟩
      clear HX
      obtain ⟨y, hyb, hy⟩ := hy
      obtain ⟨m, hm⟩ : ∃ m, Cho y m := by
        by_cases h : y < 1
        · exact ⟨1, .inl ⟨h, rfl⟩⟩
        · exact ⟨y.toNat, .inr ⟨by omega, by omega⟩⟩
      have hm2 : m ≤ 9223372036854775807 := by unfold Cho at hm; omega
      have hm1 : 1 ≤ m := by unfold Cho at hm; omega
      have HPN := Lib.hid (nextPick_any y m _ p g s' l wr PP.out SL.out YL.out hm hm2 (by have := LL.out; omega))
      have HRN := Lib.hid (fun wi (h : RPB wi w.heap.size q l s') => rpNext_any y m _ q s' l wi h SL.out YL.out hm hm2 (by have := LL.out; omega))
      have HVR := Lib.hid (pickV_range (s := s') YL.out hm1)
      have HSL2 := Lib.hid (pickS_lt (l := l) SL.out)
      have HYT := Lib.hid (byt_tail YL.out)
      have HLT : Hid (l.tail.length ≤ 40) := Lib.hid (by rw [List.length_tail]; have := LL.out; omega)
      obtain ⟨v, hv⟩ : ∃ v, pickV l s' m = v := ⟨_, rfl⟩
      obtain ⟨s2, hs2⟩ : ∃ s2, pickS l s' = s2 := ⟨_, rfl⟩
      obtain ⟨l2, hl2⟩ : ∃ l2, l.tail = l2 := ⟨_, rfl⟩
      rw [hv] at HPN HRN HVR; rw [hs2] at HPN HRN HSL2; rw [hl2] at HPN HRN HYT HLT
      clear hv hs2 hl2
      obtain ⟨nl, hnl⟩ : ∃ nl, l2.length = nl := ⟨_, rfl⟩
      have HTL := Lib.hid hnl
      have HLN : Hid (((l2.length : Nat) : Int) = (nl : Int)) := Lib.hid (by rw [hnl])
      have EVV : Hid ((v != v) = false) := Lib.hid (by simp)
      have ENN : Hid (((nl : Int) != (nl : Int)) = false) := Lib.hid (by simp)
      have EV0 : Hid (decide (v < 0) = false) := Lib.hid (by have := HVR.out; simp; omega)
      have EVM : Hid (decide ((m : Int) ≤ v) = false) := Lib.hid (by have := HVR.out; simp; omega)
      have EMX : Hid ((if y < 1 then 1 else y) = (m : Int)) := Lib.hid (by unfold Cho at hm; split <;> omega)
      have HYB := Lib.hid hyb
      clear hnl hm hyb hm2 hm1
      have H4 : Hid (∀ w4 : World, PicksB w4 w1.heap.size p g l2 s2 → Frm (Pair p g) wr w4 → PtS w1 w.heap.size w1.heap.size p g q l s' l2 s2 0 w4) := Lib.hid (fun w4 hp hf =>
        ⟨hp, QQ.out.keep hf (by intro e; rcases e with e | e <;> omega) (fun i hi e => by have := HBW.out; rcases e with e | e <;> omega), pair_below BL.out hf (by omega) (by omega)⟩)
      rcases hy with ⟨z, hz0, hz7, h3, ha, hzy⟩ | ⟨h3, rfl⟩
      all_goals
        go_wp2_with fail
        refine HPN.out.mono ?_
        rintro e w4 ⟨rfl, hp4, hf4⟩
        have HST := Lib.hid (H4.out w4 hp4 hf4)
        clear hp4 hf4
        try clear ha hzy hz0 hz7
        clear h3 c2
        go_wp2_with fail
        refine Reg.wp_facts_sl [47, 48, 49, 50, 51, 52, 53, 54, 55, 56, 57, 58, 59, 60, 61, 62, 63, 64, 65, 66, 67, 68, 69, 70, 71] rfl [3] [[], [], [], [(1, 48), (2, 49)], [(0, 47), (3, 50)], [(4, 51), (3, 50)], [], [(6, 53)], [], [(8, 55)], [(9, 56)], [(10, 57), (5, 52)], [(11, 58)], [(7, 54), (12, 59)], [(5, 52), (13, 60)], [(14, 61)], [], [(16, 63)], [(15, 62), (17, 64)], [(18, 65)], [], [], [(21, 68)], [(20, 67), (22, 69)], [(19, 66), (23, 70)]] [(24, 71)] (Reg.Known (pt13Val p q nl m y v) (PtX v q nl) [3, 5, 11]) (PtS w1 w.heap.size w1.heap.size p g q l s' l2 s2) (by kernel_rfl) (by kernel_rfl) ?start ?steps ?finish
        case start => exact PtS.zero HST.out
        case steps =>
          refine Reg.Steps.zip ?_ ?_
          · refine Reg.step_go rfl ?_
            intro a wi ki hf hd hS hc K hK
            have f11 : a.tmps.getD 11 undef = .int .i64 v := hf.same 11 rfl
            clear hf hd hc
            have hK0 := Lib.hid hK; clear hK
            have hS0 := Lib.hid hS; clear hS
            go_simp
            exact hK0.out _ _ (Reg.Known.mk_val rfl rfl) (fun _ _ h => h) hS0.out
          refine Reg.Steps.zip ?_ ?_
          · refine Reg.step_go rfl ?_
            intro a wi ki hf hd hS hc K hK
            have f8 : a.tmps.getD 8 undef = .pointer (some ⟨q, 0, none⟩) := hf.same 8 rfl
            clear hf hd hc
            have hK0 := Lib.hid hK; clear hK
            have hS0 := Lib.hid hS; clear hS
            go_simp
            exact hK0.out _ _ (Reg.Known.mk_val rfl rfl) (fun _ _ h => h) hS0.out
          refine Reg.Steps.zip ?_ ?_
          · refine Reg.step_go rfl ?_
            intro a wi ki hf hd hS hc K hK
            have f10 : a.tmps.getD 10 undef = .int .i64 y := hf.same 10 rfl
            clear hf hd hc
            have hK0 := Lib.hid hK; clear hK
            have hS0 := Lib.hid hS; clear hS
            go_simp
            exact hK0.out _ _ (Reg.Known.mk_val rfl rfl) (fun _ _ h => h) hS0.out
          refine Reg.Steps.zip ?_ ?_
          · refine Reg.step_go rfl ?_
            intro a wi ki hf hd hS hc K hK
            have e48 : a.tmps.getD 48 undef = .pointer (some ⟨q, 0, none⟩) := hd.1.plain rfl
            have e49 : a.tmps.getD 49 undef = .int .i64 y := hd.2.1.plain rfl
            clear hf hd
            obtain rfl := hc 0 rfl
            have HS := Lib.hid hS; clear hS
            have hK0 := Lib.hid hK; clear hK hc
            go_simp
            refine (HRN.out wi HS.out.2.1).mono ?_
            rintro e wA ⟨rfl, hq, hf⟩
            exact hK0.out _ _ (Reg.Known.mk_other rfl ⟨rfl, hq.top HTL.out⟩) (fun i u h => known_keepX h (fun hx => hx.next (hq.top HTL.out))) (PtS.one HS.out hq hf HQ.out)
          refine Reg.Steps.zip ?_ ?_
          · refine Reg.step_go rfl ?_
            intro a wi ki hf hd hS hc K hK
            have e47 : a.tmps.getD 47 undef = .int .i64 v := hd.1.plain rfl
            have x50 := hd.2.1.other rfl
            clear hf hd hc
            have e50 := x50.1
            have evv := EVV.out
            have hK0 := Lib.hid hK; clear hK
            have hS0 := Lib.hid hS; clear hS
            go_simp
            exact hK0.out _ _ (Reg.Known.mk_val rfl rfl) (fun _ _ h => h) hS0.out
          refine Reg.Steps.zip ?_ ?_
          · refine Reg.step_go rfl ?_
            intro a wi ki hf hd hS hc K hK
            have e51 : a.tmps.getD 51 undef = .bool false := hd.1.plain rfl
            have x50 := hd.2.1.other rfl
            clear hf hd
            have hq := x50.2
            have hK0 := Lib.hid hK; clear hK
            have hS0 := Lib.hid hS; clear hS
            have HQQ := Lib.hid hq; clear hq
            go_simp
            exact hK0.out _ _ (Reg.Known.mk_other rfl ⟨rfl, HQQ.out⟩) (fun _ _ h => h) hS0.out
          refine Reg.Steps.zip ?_ ?_
          · refine Reg.step_on rfl (fun u w h => (h.other rfl).1) ?_
            intro a wi ki hf hd hS hc K hK
            have f7 : a.tmps.getD 7 undef = .pointer (some ⟨p, 0, none⟩) := hf.same 7 rfl
            clear hf hd hc
            have hK0 := Lib.hid hK; clear hK
            have hS0 := Lib.hid hS; clear hS
            go_simp
            exact hK0.out _ _ (Reg.Known.mk_val rfl rfl) (fun _ _ h => h) hS0.out
          refine Reg.Steps.zip ?_ ?_
          · refine Reg.step_on rfl (fun u w h => (h.other rfl).1) ?_
            intro a wi ki hf hd hS hc K hK
            have e53 : a.tmps.getD 53 undef = .pointer (some ⟨p, 0, none⟩) := hd.1.plain rfl
            clear hf hd
            have HP := Lib.hid hS.picks
            have hK0 := Lib.hid hK; clear hK
            have hS0 := Lib.hid hS; clear hS
            go_simp
            refine (left_any p g _ l2 s2 wi HP.out).mono ?_
            rintro e wA ⟨rfl, rfl⟩
            rw [HLN.out]
            exact hK0.out _ _ (Reg.Known.mk_val rfl rfl) (fun _ _ h => h) hS0.out
          refine Reg.Steps.zip ?_ ?_
          · refine Reg.step_on rfl (fun u w h => (h.other rfl).1) ?_
            intro a wi ki hf hd hS hc K hK
            have f8 : a.tmps.getD 8 undef = .pointer (some ⟨q, 0, none⟩) := hf.same 8 rfl
            clear hf hd hc
            have hK0 := Lib.hid hK; clear hK
            have hS0 := Lib.hid hS; clear hS
            go_simp
            exact hK0.out _ _ (Reg.Known.mk_val rfl rfl) (fun _ _ h => h) hS0.out
          refine Reg.Steps.zip ?_ ?_
          · refine Reg.step_on rfl (fun u w h => (h.other rfl).1) ?_
            intro a wi ki hf hd hS hc K hK
            have e55 : a.tmps.getD 55 undef = .pointer (some ⟨q, 0, none⟩) := hd.1.plain rfl
            clear hf hd hc
            have hK0 := Lib.hid hK; clear hK
            have hS0 := Lib.hid hS; clear hS
            go_simp
            exact hK0.out _ _ (Reg.Known.mk_val rfl rfl) (fun _ _ h => h) hS0.out
          refine Reg.Steps.zip ?_ ?_
          · refine Reg.step_on rfl (fun u w h => (h.other rfl).1) ?_
            intro a wi ki hf hd hS hc K hK
            have e56 : a.tmps.getD 56 undef = .pointer (some ⟨q, 0, none⟩) := hd.1.plain rfl
            clear hf hd hc
            have hK0 := Lib.hid hK; clear hK
            have hS0 := Lib.hid hS; clear hS
            go_simp
            exact hK0.out _ _ (Reg.Known.mk_val rfl rfl) (fun _ _ h => h) hS0.out
          refine Reg.Steps.zip ?_ ?_
          · refine Reg.step_on rfl (fun u w h => (h.other rfl).1) ?_
            intro a wi ki hf hd hS hc K hK
            have e57 : a.tmps.getD 57 undef = .pointer (some ⟨q, 0, none⟩) := hd.1.plain rfl
            have x52 := hd.2.1.other rfl
            clear hf hd
            obtain ⟨A9, c9, hc9⟩ := x52.2
            have hK0 := Lib.hid hK; clear hK
            have hS0 := Lib.hid hS; clear hS
            go_simp
            exact hK0.out _ _ (Reg.Known.mk_other rfl ⟨A9, c9, rfl⟩) (fun _ _ h => h) hS0.out
          refine Reg.Steps.zip ?_ ?_
          · refine Reg.step_on rfl (fun u w h => (h.other rfl).1) ?_
            intro a wi ki hf hd hS hc K hK
            have x58 := hd.1.other rfl
            clear hf hd hc
            obtain ⟨A58, c58, e58⟩ := x58
            have hK0 := Lib.hid hK; clear hK
            have hS0 := Lib.hid hS; clear hS
            go_simp
            exact hK0.out _ _ (Reg.Known.mk_val rfl rfl) (fun _ _ h => h) hS0.out
          refine Reg.Steps.zip ?_ ?_
          · refine Reg.step_on rfl (fun u w h => (h.other rfl).1) ?_
            intro a wi ki hf hd hS hc K hK
            have e54 : a.tmps.getD 54 undef = .int .i64 (nl : Int) := hd.1.plain rfl
            have e59 : a.tmps.getD 59 undef = .int .i64 (nl : Int) := hd.2.1.plain rfl
            clear hf hd hc
            have enn := ENN.out
            have hK0 := Lib.hid hK; clear hK
            have hS0 := Lib.hid hS; clear hS
            go_simp
            exact hK0.out _ _ (Reg.Known.mk_val rfl rfl) (fun _ _ h => h) hS0.out
          refine Reg.Steps.zip ?_ ?_
          · refine Reg.step_go rfl ?_
            intro a wi ki hf hd hS hc K hK
            have x52 := hd.1.other rfl
            have e60 : a.tmps.getD 60 undef = .bool false := hd.2.1.plain rfl
            clear hf hd hc
            have e52 := x52.1
            have hK0 := Lib.hid hK; clear hK
            have hS0 := Lib.hid hS; clear hS
            go_simp
            exact hK0.out _ _ (Reg.Known.mk_val rfl rfl) (fun _ _ h => h) hS0.out
          refine Reg.Steps.zip ?_ ?_
          · refine Reg.step_go rfl ?_
            intro a wi ki hf hd hS hc K hK
            have e61 : a.tmps.getD 61 undef = .bool false := hd.1.plain rfl
            clear hf hd hc
            have hK0 := Lib.hid hK; clear hK
            have hS0 := Lib.hid hS; clear hS
            go_simp
            exact hK0.out _ _ (Reg.Known.mk_val rfl rfl) (fun _ _ h => h) hS0.out
          refine Reg.Steps.zip ?_ ?_
          · refine Reg.step_on rfl (fun u w h => h.plain rfl) ?_
            intro a wi ki hf hd hS hc K hK
            have f11 : a.tmps.getD 11 undef = .int .i64 v := hf.same 11 rfl
            clear hf hd hc
            have hK0 := Lib.hid hK; clear hK
            have hS0 := Lib.hid hS; clear hS
            go_simp
            exact hK0.out _ _ (Reg.Known.mk_val rfl rfl) (fun _ _ h => h) hS0.out
          refine Reg.Steps.zip ?_ ?_
          · refine Reg.step_on rfl (fun u w h => h.plain rfl) ?_
            intro a wi ki hf hd hS hc K hK
            have e63 : a.tmps.getD 63 undef = .int .i64 v := hd.1.plain rfl
            clear hf hd hc
            have ev0 := EV0.out
            have hK0 := Lib.hid hK; clear hK
            have hS0 := Lib.hid hS; clear hS
            go_simp
            exact hK0.out _ _ (Reg.Known.mk_val rfl rfl) (fun _ _ h => h) hS0.out
          refine Reg.Steps.zip ?_ ?_
          · refine Reg.step_go rfl ?_
            intro a wi ki hf hd hS hc K hK
            have e62 : a.tmps.getD 62 undef = .bool false := hd.1.plain rfl
            have e64 : a.tmps.getD 64 undef = .bool false := hd.2.1.plain rfl
            clear hf hd hc
            have hK0 := Lib.hid hK; clear hK
            have hS0 := Lib.hid hS; clear hS
            go_simp
            exact hK0.out _ _ (Reg.Known.mk_val rfl rfl) (fun _ _ h => h) hS0.out
          refine Reg.Steps.zip ?_ ?_
          · refine Reg.step_go rfl ?_
            intro a wi ki hf hd hS hc K hK
            have e65 : a.tmps.getD 65 undef = .bool false := hd.1.plain rfl
            clear hf hd hc
            have hK0 := Lib.hid hK; clear hK
            have hS0 := Lib.hid hS; clear hS
            go_simp
            exact hK0.out _ _ (Reg.Known.mk_val rfl rfl) (fun _ _ h => h) hS0.out
          refine Reg.Steps.zip ?_ ?_
          · refine Reg.step_on rfl (fun u w h => h.plain rfl) ?_
            intro a wi ki hf hd hS hc K hK
            have f11 : a.tmps.getD 11 undef = .int .i64 v := hf.same 11 rfl
            clear hf hd hc
            have hK0 := Lib.hid hK; clear hK
            have hS0 := Lib.hid hS; clear hS
            go_simp
            exact hK0.out _ _ (Reg.Known.mk_val rfl rfl) (fun _ _ h => h) hS0.out
          refine Reg.Steps.zip ?_ ?_
          · refine Reg.step_on rfl (fun u w h => h.plain rfl) ?_
            intro a wi ki hf hd hS hc K hK
            have f10 : a.tmps.getD 10 undef = .int .i64 y := hf.same 10 rfl
            clear hf hd hc
            have hK0 := Lib.hid hK; clear hK
            have hS0 := Lib.hid hS; clear hS
            go_simp
            exact hK0.out _ _ (Reg.Known.mk_val rfl rfl) (fun _ _ h => h) hS0.out
          refine Reg.Steps.zip ?_ ?_
          · refine Reg.step_on rfl (fun u w h => h.plain rfl) ?_
            intro a wi ki hf hd hS hc K hK
            have e68 : a.tmps.getD 68 undef = .int .i64 y := hd.1.plain rfl
            clear hf hd hc
            have emx := EMX.out
            have hK0 := Lib.hid hK; clear hK
            have hS0 := Lib.hid hS; clear hS
            go_simp
            exact hK0.out _ _ (Reg.Known.mk_val rfl rfl) (fun _ _ h => h) hS0.out
          refine Reg.Steps.zip ?_ ?_
          · refine Reg.step_on rfl (fun u w h => h.plain rfl) ?_
            intro a wi ki hf hd hS hc K hK
            have e67 : a.tmps.getD 67 undef = .int .i64 v := hd.1.plain rfl
            have e69 : a.tmps.getD 69 undef = .int .i64 (m : Int) := hd.2.1.plain rfl
            clear hf hd hc
            have evm := EVM.out
            have hK0 := Lib.hid hK; clear hK
            have hS0 := Lib.hid hS; clear hS
            go_simp
            exact hK0.out _ _ (Reg.Known.mk_val rfl rfl) (fun _ _ h => h) hS0.out
          refine Reg.Steps.zip ?_ ?_
          · refine Reg.step_go rfl ?_
            intro a wi ki hf hd hS hc K hK
            have e66 : a.tmps.getD 66 undef = .bool false := hd.1.plain rfl
            have e70 : a.tmps.getD 70 undef = .bool false := hd.2.1.plain rfl
            clear hf hd hc
            have hK0 := Lib.hid hK; clear hK
            have hS0 := Lib.hid hS; clear hS
            go_simp
            exact hK0.out _ _ (Reg.Known.mk_val rfl rfl) (fun _ _ h => h) hS0.out
          exact Reg.Steps.nil
        case finish =>
          intro a8 w8 hf hd hS8
          obtain ⟨u, hu⟩ : ∃ u : Nat → Value, u = fun s => a8.tmps.getD s undef := ⟨_, rfl⟩
          have e71 : u 71 = .bool false := by rw [hu]; exact hd.1.plain rfl
          rw [hf.eq, ← hu]
          clear hf hu hd
          have S8 := Lib.hid hS8
          clear hS8 HST
          simp (config := { maxSteps := 10000000 }) [Reg.filled, e71]
          clear e71
          go_wp2_with fail
          go_roundw
          case rel => exact ⟨k + 1, l2, s2, by omega, by go_num, HLT.out, HYT.out, HSL2.out, S8.out.1, S8.out.2.1, S8.out.2.2⟩
          case measure => simp [intOf]; omega
    · go_wp2_with fail
      go_ret
      exact ⟨rfl, B1.out.trans (BL.out.mono B1.out.size)⟩

/- The claim. -/

set_option maxRecDepth 100000 in
theorem lifted (os : Os) (started : os.Started) (H : Type) (enc : TypeId × Value → H) :
    ReturnsInHanded {} Try.checked os 9 .any (Rows.picksTellSpec.pre6 enc Try.prog Try.f9 Rows.picksTellRow.domain false) (Rows.picksTellSpec.post enc Try.prog Try.f9 false true false false) := by
  refine returnsInHanded_of_change (C := Try.checked) ownKnobs started (by kernel_rfl) Try.func9
    (ChangeSpec.witness6 (enc := enc) (C := Try.checked) false ⟨#[], #[.slice none 0 0, .int .u64 0, .slice none 0 0], []⟩ 8 (by kernel_rfl) (by kernel_rfl) (by kernel_rfl) (by kernel_rfl)) ?_
  intro W base args ds gs before hval hW _ _
  refine law_contract rfl rfl (fun ds h => by match ds, h with | [d1, d2, d3], _ => rfl) (by decide +kernel) hW ?_
  obtain ⟨p, q, hA0, _⟩ := hW
  have hA : DataW.TrodAll enc Try.prog W 0 (fun _ => true) true Try.f9.params.toList args.toList ds p := hA0
  have hval' : ∀ (j : Nat) t v, Try.f9.params[j]? = some t → args[j]? = some v → Value.okWide Try.prog W .any base t v := hval
  rw [Try.params9] at hA hval'
  obtain ⟨v0, vs0, d0, ds0, p0, q0, hargs, rfl, rfl, h0, r0⟩ := trodAll_cons hA
  obtain ⟨v1, vs1, d1, ds1, p1, q1, rfl, rfl, rfl, h1, r1⟩ := trodAll_cons r0
  obtain ⟨v2, vs2, d2, ds2, p2, q2, rfl, rfl, rfl, h2, r2⟩ := trodAll_cons r1
  obtain ⟨rfl, rfl, rfl⟩ := trodAll_nil r2
  obtain rfl : args = #[v0, v1, v2] := by cases args; simp_all
  obtain ⟨l0, h0, m0, y0⟩ := open_bytv (hval' 0 _ v0 rfl rfl) h0
  obtain ⟨z1, rfl, rfl, rfl, w1⟩ := open_int Try.underlying34 (hval' 1 _ v1 rfl rfl) h1
  have b1 : 0 ≤ z1 ∧ z1 ≤ 18446744073709551615 := by simpa [Lit.wf, IntKind.min, IntKind.max, IntKind.signed, IntKind.bits] using w1
  obtain ⟨a1, rfl⟩ : ∃ n : Nat, z1 = n := ⟨z1.toNat, by omega⟩
  obtain ⟨l2, h2, m2, x2⟩ := open_list (hval' 2 _ v2 rfl rfl) h2
  exact walk v0 v2 l0 l2 a1 W h0 m0 y0 (by omega) h2 x2 m2

theorem proved : Rows.PicksTellSaid :=
  OpenClaim.holds_of_wide 9 Try.f9 rfl rfl rfl rfl rfl rfl rfl ⟨rfl, rfl, rfl, rfl, rfl⟩ rfl rfl rfl rfl rfl (by kernel_rfl) Try.func9 (by kernel_rfl)
    (of_decide_eq_true (by kernel_rfl)) (by unfold Func.isWrapper; first | (rw [if_pos (by decide +kernel)]; kernel_rfl) | (rw [if_neg (by decide +kernel)]; exact ⟨rfl, rfl⟩))
    (fun os started H enc _ => lifted os started H enc)

end Go.Proofs.Ytnelaeafjejjgaa.picksTell
