/- PicksFirst returns true for every input and changes nothing: the given choices are returned first, whatever the seed is, and the later ones depend only on the seed. No condition. -/
import Derived.Test.YtnelaeafjejjgaaKnown17
import Derived.Test.YtnelaeafjejjgaaRegion
namespace Go.Proofs.Ytnelaeafjejjgaa.picksFirst
set_option maxRecDepth 100000
open Go.RowKit Go.ChangeShapes Go.WideShapes Go.ChangeAt

theorem known_keepX {val : Nat → Value} {X : Nat → Value → World → Prop} {sp : List Nat} {i : Nat} {u : Value} {w w' : World} (h : Reg.Known val X sp i u w) (f : X i u w → X i u w') : Reg.Known val X sp i u w' :=
  ⟨h.plain, fun hs => f (h.other hs)⟩
def PfX (v : Int) (lo p g : Nat) (l : List Int) (s : Nat) (i : Nat) (u : Value) (w : World) : Prop := match i with
  | 14 => u = .int .i64 v ∧ PicksB w lo p g l s
  | _ => u = .bool false ∧ PicksB w lo p g l s
theorem PfX.next {v : Int} {lo p g s i : Nat} {l : List Int} {u : Value} {w w' : World} (h : PfX v lo p g l s i u w) (hp : PicksB w' lo p g l s) : PfX v lo p g l s i u w' := by
  unfold PfX at h ⊢
  split at h
  · exact ⟨h.1, hp⟩
  · exact ⟨h.1, hp⟩
/-- Two choices out of one list, of two seeds: none, one or both have gone on; a byte of an argument. -/
structure PfS (W : World) (lo1 p1 g1 lo2 p2 g2 : Nat) (x : Int) (l2 : List Int) (s1 s2 b off i : Nat) (k : Nat) (w : World) : Prop where
  a : match k with | 0 => PicksB w lo1 p1 g1 (x :: l2) s1 | _ => PicksB w lo1 p1 g1 l2 s1
  q : match k with | 0 => PicksB w lo2 p2 g2 (x :: l2) s2 | 1 => PicksB w lo2 p2 g2 (x :: l2) s2 | 2 => PicksB w lo2 p2 g2 (x :: l2) s2 | _ => PicksB w lo2 p2 g2 l2 s2
  cel : w.cell? ⟨b, off + i, none⟩ = some (.int .u8 x)
  old : Below W.heap.size W w
  blt : b < W.heap.size
/-- Where they lie: one behind the other, behind what was there. -/
def Apart (W : World) (lo1 p1 g1 lo2 p2 g2 : Nat) : Prop := W.heap.size ≤ lo1 ∧ lo1 ≤ g1 ∧ g1 < p1 ∧ p1 < lo2 ∧ lo2 ≤ g2 ∧ g2 < p2
section
variable {W w w' : World} {lo1 p1 g1 lo2 p2 g2 s1 s2 b off i k : Nat} {l l2 : List Int} {x : Int}
theorem keep_first (h : PicksB w lo1 p1 g1 l s1) (hf : Frm (Pair p2 g2) w w') (ha : Apart W lo1 p1 g1 lo2 p2 g2) : PicksB w' lo1 p1 g1 l s1 :=
  h.keep hf (by unfold Apart at ha; intro e; rcases e with e | e <;> omega) (fun j h1 h2 e => by unfold Apart at ha; rcases e with e | e <;> omega)
theorem keep_second (h : PicksB w lo2 p2 g2 l s2) (hf : Frm (Pair p1 g1) w w') (ha : Apart W lo1 p1 g1 lo2 p2 g2) : PicksB w' lo2 p2 g2 l s2 :=
  h.keep hf (by unfold Apart at ha; intro e; rcases e with e | e <;> omega) (fun j h1 h2 e => by unfold Apart at ha; rcases e with e | e <;> omega)
theorem PfS.zero (h : PfS W lo1 p1 g1 lo2 p2 g2 x l2 s1 s2 b off i 0 w) : PfS W lo1 p1 g1 lo2 p2 g2 x l2 s1 s2 b off i 0 w.drew :=
  ⟨PicksB.below h.a (Below.refl _ _).drew, PicksB.below h.q (Below.refl _ _).drew, h.cel, h.old.drew, h.blt⟩
theorem PfS.aa (h : PfS W lo1 p1 g1 lo2 p2 g2 x l2 s1 s2 b off i 0 w) : PicksB w lo1 p1 g1 (x :: l2) s1 := h.a
theorem PfS.mid (h : PfS W lo1 p1 g1 lo2 p2 g2 x l2 s1 s2 b off i 1 w) : PfS W lo1 p1 g1 lo2 p2 g2 x l2 s1 s2 b off i 2 w := ⟨h.a, h.q, h.cel, h.old, h.blt⟩
theorem PfS.qq (h : PfS W lo1 p1 g1 lo2 p2 g2 x l2 s1 s2 b off i 2 w) : PicksB w lo2 p2 g2 (x :: l2) s2 := h.q
theorem PfS.one (h : PfS W lo1 p1 g1 lo2 p2 g2 x l2 s1 s2 b off i 0 w) (hp : PicksB w' lo1 p1 g1 l2 s1) (hf : Frm (Pair p1 g1) w w') (ha : Apart W lo1 p1 g1 lo2 p2 g2) : PfS W lo1 p1 g1 lo2 p2 g2 x l2 s1 s2 b off i 1 w' :=
  ⟨hp, keep_second (W := W) (lo1 := lo1) h.q hf ha, (hf.cell (by have := h.old.size; have := h.blt; omega) (by have := h.blt; unfold Apart at ha; intro e; rcases e with e | e <;> omega)).trans h.cel, pair_below h.old hf (by unfold Apart at ha; omega) (by unfold Apart at ha; omega), h.blt⟩
theorem PfS.keep1 (h : PfS W lo1 p1 g1 lo2 p2 g2 x l2 s1 s2 b off i 2 w) (hf : Frm (Pair p2 g2) w w') (ha : Apart W lo1 p1 g1 lo2 p2 g2) : PicksB w' lo1 p1 g1 l2 s1 := keep_first (W := W) (lo2 := lo2) h.a hf ha
theorem PfS.two (h : PfS W lo1 p1 g1 lo2 p2 g2 x l2 s1 s2 b off i 2 w) (hp : PicksB w' lo2 p2 g2 l2 s2) (hf : Frm (Pair p2 g2) w w') (ha : Apart W lo1 p1 g1 lo2 p2 g2) : PfS W lo1 p1 g1 lo2 p2 g2 x l2 s1 s2 b off i 3 w' :=
  ⟨h.keep1 hf ha, hp, (hf.cell (by have := h.old.size; have := h.blt; omega) (by have := h.blt; unfold Apart at ha; intro e; rcases e with e | e <;> omega)).trans h.cel, pair_below h.old hf (by unfold Apart at ha; omega) (by unfold Apart at ha; omega), h.blt⟩
end

def pf10Val (A : Option Addr) (n c i b off p1 p2 m nl : Nat) (x v : Int) : Nat → Value
  | 0 => .pointer (some ⟨p1, 0, none⟩)
  | 1 => .int .i64 (m : Int)
  | 2 => .int .i64 v
  | 3 => .slice A n c
  | 4 => .int .i64 (i : Int)
  | 5 => .pointer (some ⟨b, off + i, none⟩)
  | 6 => .int .u8 x
  | 7 => .int .i64 x
  | 8 => .int .i64 (m : Int)
  | 9 => .int .i64 v
  | 10 => .bool false
  | 11 => .bool false
  | 12 => .pointer (some ⟨p2, 0, none⟩)
  | 13 => .int .i64 (m : Int)
  | 15 => .slice A n c
  | 16 => .int .i64 (i : Int)
  | 17 => .pointer (some ⟨b, off + i, none⟩)
  | 18 => .int .u8 x
  | 19 => .int .i64 x
  | 20 => .int .i64 (m : Int)
  | 21 => .int .i64 v
  | 22 => .bool false
  | 23 => .bool false
  | 25 => .pointer (some ⟨p1, 0, none⟩)
  | 26 => .int .i64 (nl : Int)
  | 27 => .slice A n c
  | 28 => .int .i64 (n : Int)
  | 29 => .int .i64 (i : Int)
  | 30 => .int .i64 ((n : Int) - i)
  | 31 => .int .i64 (nl : Int)
  | 32 => .bool false
  | 33 => .bool false
  | _ => undef


set_option maxRecDepth 100000 in
set_option maxHeartbeats 16000000 in
theorem walk (lv : Value) (l : List Int) (s0 n8 : Nat) (w : World) (hl : BytV w w.heap.size lv l) (hmx : l.length ≤ maxLen) (hy : IsByt l) (hs : s0 < 18446744073709551616) (hn8 : n8 ≤ 255) :
    Calls Try.prog 10 #[lv, .int .u64 s0, .int .u8 n8] w fun e w' => e = .returned (.bool true) ∧ Below w.heap.size w w' := by
  have HLV := Lib.hid hl; have HY := Lib.hid hy
  obtain ⟨A, c, rfl, _, hll⟩ := hl
  have HL := Lib.hid hll; clear hll hy
  obtain ⟨N, hN⟩ : ∃ n, l.length = n := ⟨_, rfl⟩
  have HN := Lib.hid hN
  rw [hN] at hmx HLV ⊢
  unfold maxLen at hmx
  clear hN
  by_cases h30 : 30 < N
  · go_enter Try.func10, Try.ntmps10
    go_wp2_with fail
    refine (known17_any w).mono ?_
    rintro e w1 ⟨rfl, hb1⟩
    go_wp2_with fail
    go_ret
    exact ⟨rfl, hb1⟩
  have h30' : N ≤ 30 := by omega
  obtain ⟨m, hm⟩ : ∃ m : Nat, (n8 : Int) % 8 + 1 = (m : Int) := ⟨n8 % 8 + 1, by omega⟩
  have hm1 : 1 ≤ m ∧ m ≤ 8 := by omega
  obtain ⟨t0, ht0⟩ : ∃ t0 : Nat, IntKind.u64.wrap ((s0 : Int) + 1) = (t0 : Int) := ⟨(s0 + 1) % 18446744073709551616, by rw [wrapU64]; omega⟩
  have ht1 : t0 < 18446744073709551616 := by rw [wrapU64] at ht0; omega
  have HP := Lib.hid (fun (s : Nat) (w1 : World) (hb : Below w.heap.size w w1) => newPicks_any (.slice A N c) l s w1 ((HLV.out.below hb).more hb.size) (by rw [HN.out]; omega))
  have HP1 := Lib.hid (fun w1 hb => HP.out s0 w1 hb)
  have HP2 := Lib.hid (fun w1 hb => HP.out t0 w1 hb)
  have HP3 := Lib.hid (fun w1 => newPicks_any (.slice none 0 0) [] s0 w1 ⟨none, 0, rfl, Nat.le_refl _, Lies.nil⟩ (by decide))
  have H1 := Lib.hid (seed1_lt hs)
  have H2 := Lib.hid (seed1_lt ht1)
  obtain ⟨s1, hs1⟩ : ∃ s, seed1 s0 = s := ⟨_, rfl⟩
  obtain ⟨s2, hs2⟩ : ∃ s, seed1 t0 = s := ⟨_, rfl⟩
  rw [hs1] at HP1 HP3 H1; rw [hs2] at HP2 H2
  clear hs hs1 hs2 ht1 hn8 HP
  have HT0 := Lib.hid ht0; have HMM := Lib.hid hm
  have HCHO : Hid (Cho (m : Int) m) := Lib.hid (.inr ⟨by omega, rfl⟩)
  go_enter Try.func10, Try.ntmps10
  go_wp2_with fail
  refine (known17_any w).mono ?_
  rintro e w1 ⟨rfl, hb1⟩
  have B1 := Lib.hid hb1; clear hb1
  go_wp2_with fail
  refine (HP1.out w1 B1.out).mono ?_
  rintro e w2 ⟨p1, g1, rfl, hp, hb⟩
  have A2 := Lib.hid hp; have B2 := Lib.hid hb
  clear hp hb
  go_wp2_with fail
  refine (HP2.out w2 (B1.out.trans (B2.out.mono B1.out.size))).mono ?_
  rintro e w3 ⟨p2, g2, rfl, hp, hb⟩
  have Q3 := Lib.hid hp; have A3 := Lib.hid (A2.out.below hb); have B3 := Lib.hid (B2.out.trans (hb.mono B2.out.size))
  have HQ : Hid (Apart w1 w1.heap.size p1 g1 w2.heap.size p2 g2) := Lib.hid ⟨Nat.le_refl _, A2.out.lo, A2.out.lt, A2.out.plt, hp.lo, hp.lt⟩
  clear hp hb A2 B2
  go_wp2_with fail
  refine (HP3.out w3).mono ?_
  rintro e w4 ⟨p3, g3, rfl, hp, hb⟩
  have O4 := Lib.hid hp; have A4 := Lib.hid (A3.out.below hb); have Q4 := Lib.hid (Q3.out.below hb); have B4 := Lib.hid (B3.out.trans (hb.mono B3.out.size))
  have HQ3 : Hid (Apart w1 w1.heap.size p1 g1 w3.heap.size p3 g3) := Lib.hid (by have h := HQ.out; unfold Apart at h ⊢; exact ⟨h.1, h.2.1, h.2.2.1, A3.out.plt, hp.lo, hp.lt⟩)
  have HQ23 : Hid (Apart w1 w2.heap.size p2 g2 w3.heap.size p3 g3) := Lib.hid (by have h := HQ.out; unfold Apart at h ⊢; exact ⟨by omega, h.2.2.2.2.1, h.2.2.2.2.2, Q3.out.plt, hp.lo, hp.lt⟩)
  clear hp hb A3 Q3 B3
  go_wp2_with fail
  try rw [hm]
  clear hm ht0
  generalize hlo1 : w1.heap.size = lo1 at HQ HQ3 A4
  generalize hlo2 : w2.heap.size = lo2 at HQ HQ23 Q4
  generalize hlo3 : w3.heap.size = lo3 at HQ3 HQ23 O4
  clear hlo1 hlo2 hlo3
  go_loopw [11] (fun i wr => ∃ k : Nat, k ≤ N ∧ i = .int .i64 k ∧ PicksB wr lo1 p1 g1 (l.drop k) s1 ∧ PicksB wr lo2 p2 g2 (l.drop k) s2 ∧ PicksB wr lo3 p3 g3 [] s1 ∧ Below w1.heap.size w1 wr) (fun i _ => N - (intOf i).toNat)
  case atStart => exact ⟨0, Nat.zero_le _, rfl, A4.out, Q4.out, O4.out, B4.out⟩
  case round =>
    obtain ⟨i, hi, rfl, ha, hq, ho, hb⟩ := hrel
    clear A4 Q4 O4 B4
    have PA := Lib.hid ha; have PQ := Lib.hid hq; have PO := Lib.hid ho; have BL := Lib.hid hb
    clear ha hq ho hb
    by_cases hkn : i < N
    · have hil : i < l.length := by rw [HN.out]; exact hkn
      obtain ⟨b, off, rfl, hbw, cc1⟩ := lie_u8 HL.out hil
      have hx := HY.out l[i] (List.getElem_mem hil)
      have hdr := List.drop_eq_getElem_cons hil
      have hyd : IsByt (l.drop (i + 1)) := fun x hx => HY.out x (List.mem_of_mem_drop hx)
      have hln : (l.drop (i + 1)).length = N - i - 1 := by rw [List.length_drop, HN.out]; omega
      have hbw1 : b < w1.heap.size := by have := B1.out.size; omega
      have c2 : wr.cell? ⟨b, off + i, none⟩ = some (.int .u8 l[i]) := by
        rw [BL.out.cell (p := ⟨b, off + i, none⟩) hbw1, B1.out.cell (p := ⟨b, off + i, none⟩) hbw, cc1]
      rw [hdr] at PA PQ
      clear cc1 hdr
      obtain ⟨x, hxx⟩ : ∃ x, l[i] = x := ⟨_, rfl⟩
      obtain ⟨l2, hl2⟩ : ∃ l2, l.drop (i + 1) = l2 := ⟨_, rfl⟩
      rw [hxx] at c2 hx PA PQ; rw [hl2] at PA PQ hyd hln
      have HL2 := Lib.hid hl2
      obtain ⟨nl, hnl⟩ : ∃ nl, N - i - 1 = nl := ⟨_, rfl⟩
      rw [hnl] at hln
      have hb2 : l2.length ≤ 100000 := by omega
      have HN1 := Lib.hid (fun wi (h : PicksB wi lo1 p1 g1 (x :: l2) s1) => nextPick_cons m m lo1 p1 g1 s1 x l2 wi h hx HCHO.out (by omega) hb2)
      have HN2 := Lib.hid (fun wi (h : PicksB wi lo2 p2 g2 (x :: l2) s2) => nextPick_cons m m lo2 p2 g2 s2 x l2 wi h hx HCHO.out (by omega) hb2)
      have hvb : 0 ≤ x % (m : Int) ∧ x % (m : Int) ≤ 255 := by
        obtain ⟨X, rfl⟩ := Int.eq_ofNat_of_zero_le hx.1
        have := Nat.mod_le X m
        rw [← Int.natCast_emod]; omega
      obtain ⟨v, hv⟩ : ∃ v, x % (m : Int) = v := ⟨_, rfl⟩
      rw [show pickV (x :: l2) s1 m = v from hv, show pickS (x :: l2) s1 = s1 from rfl] at HN1
      rw [show pickV (x :: l2) s2 m = v from hv, show pickS (x :: l2) s2 = s2 from rfl] at HN2
      rw [hv] at hvb
      have FM : Hid (Int.tmod x (m : Int) = v) := Lib.hid (by rw [mod_byte hx.1, hv])
      have FW : Hid (IntKind.i64.wrap x = x) := Lib.hid (IntWalk.i64_in _ (by omega))
      have FV : Hid (IntKind.i64.wrap v = v) := Lib.hid (IntWalk.i64_in _ (by omega))
      have MZ : Hid (¬ (m : Int) = 0) := Lib.hid (by omega)
      have MZ2 : Hid (¬ m = 0) := Lib.hid (by omega)
      have HKI : Hid ((0 : Int) ≤ (i : Int) ∧ (i : Int) < (N : Int)) := Lib.hid (by omega)
      have FS1 : Hid (IntKind.i64.wrap ((N : Int) - i) = (N : Int) - i) := Lib.hid (IntWalk.i64_in _ (by omega))
      have FS2 : Hid (IntKind.i64.wrap ((N : Int) - i - 1) = (nl : Int)) := Lib.hid (by rw [show (N : Int) - i - 1 = (nl : Int) by omega]; exact IntWalk.i64_in _ (by omega))
      have EVV : Hid ((v != v) = false) := Lib.hid (by simp)
      have ENN : Hid (((nl : Int) != (nl : Int)) = false) := Lib.hid (by simp)
      have HLN : Hid (((l2.length : Nat) : Int) = (nl : Int)) := Lib.hid (by rw [hln])
      have HST : Hid (PfS w1 lo1 p1 g1 lo2 p2 g2 x l2 s1 s2 b off i 0 wr ∧ PicksB wr lo3 p3 g3 [] s1) := Lib.hid ⟨⟨PA.out, PQ.out, c2, BL.out, hbw1⟩, PO.out⟩
      clear hv hxx hl2 hnl hx hyd hln hb2 hvb c2 hbw hbw1 PA PQ BL
      go_wp2_with fail
      refine Reg.wp_facts_sl [37, 38, 39, 40, 41, 42, 43, 44, 45, 46, 47, 48, 49, 50, 51, 52, 53, 54, 55, 56, 57, 58, 59, 60, 61, 62, 63, 64, 65, 66, 67, 68, 69, 70] rfl [2, 11, 14] [[], [], [(0, 37), (1, 38)], [], [], [(3, 40), (4, 41)], [(5, 42)], [(6, 43)], [], [(7, 44), (8, 45)], [(2, 39), (9, 46)], [(10, 47)], [], [], [(12, 49), (13, 50)], [], [], [(15, 52), (16, 53)], [(17, 54)], [(18, 55)], [], [(19, 56), (20, 57)], [(14, 51), (21, 58)], [(11, 48), (22, 59)], [(23, 60), (14, 51)], [], [(25, 62), (24, 61)], [], [(27, 64)], [], [(28, 65), (29, 66)], [(30, 67)], [(26, 63), (31, 68)], [(24, 61), (32, 69)]] [(33, 70)] (Reg.Known (pf10Val (some ⟨b, off, none⟩) N c i b off p1 p2 m nl x v) (PfX v lo1 p1 g1 l2 s1) [14, 24]) (fun k w' => PfS w1 lo1 p1 g1 lo2 p2 g2 x l2 s1 s2 b off i k w' ∧ PicksB w' lo3 p3 g3 [] s1) (by kernel_rfl) (by kernel_rfl) ?start ?steps ?finish
      case start => exact ⟨HST.out.1.zero, PicksB.below HST.out.2 (Below.refl _ _).drew⟩
      case steps =>
        refine Reg.Steps.zip ?_ ?_
        · refine Reg.step_go rfl ?_
          intro a wi ki hf hd hS hc K hK
          have f8 : a.tmps.getD 8 undef = .pointer (some ⟨p1, 0, none⟩) := hf.same 8 rfl
          clear hf hd hc
          have hK0 := Lib.hid hK; clear hK
          have hS0 := Lib.hid hS; clear hS
          go_simp
          exact hK0.out _ _ (Reg.Known.mk_val rfl rfl) (fun _ _ h => h) hS0.out
        refine Reg.Steps.zip ?_ ?_
        · refine Reg.step_go rfl ?_
          intro a wi ki hf hd hS hc K hK
          have f7 : a.tmps.getD 7 undef = .int .i64 (m : Int) := hf.same 7 rfl
          clear hf hd hc
          have hK0 := Lib.hid hK; clear hK
          have hS0 := Lib.hid hS; clear hS
          go_simp
          exact hK0.out _ _ (Reg.Known.mk_val rfl rfl) (fun _ _ h => h) hS0.out
        refine Reg.Steps.zip ?_ ?_
        · refine Reg.step_go rfl ?_
          intro a wi ki hf hd hS hc K hK
          have e37 : a.tmps.getD 37 undef = .pointer (some ⟨p1, 0, none⟩) := hd.1.plain rfl
          have e38 : a.tmps.getD 38 undef = .int .i64 (m : Int) := hd.2.1.plain rfl
          clear hf hd
          obtain rfl := hc 0 rfl
          have HS := Lib.hid hS; clear hS
          have hK0 := Lib.hid hK; clear hK hc
          go_simp
          refine (HN1.out wi HS.out.1.aa).mono ?_
          rintro e wA ⟨rfl, hp, hf⟩
          exact hK0.out _ _ (Reg.Known.mk_val rfl rfl) (fun i u h => known_keepX h (fun hx => hx.next hp)) ⟨HS.out.1.one hp hf HQ.out, keep_second (W := w1) (lo1 := lo1) HS.out.2 hf HQ3.out⟩
        refine Reg.Steps.zip ?_ ?_
        · refine Reg.step_go rfl ?_
          intro a wi ki hf hd hS hc K hK
          have f0 : a.tmps.getD 0 undef = .slice (some ⟨b, off, none⟩) N c := hf.same 0 rfl
          clear hf hd hc
          have hK0 := Lib.hid hK; clear hK
          have hS0 := Lib.hid hS; clear hS
          go_simp
          exact hK0.out _ _ (Reg.Known.mk_val rfl rfl) (fun _ _ h => h) hS0.out
        refine Reg.Steps.zip ?_ ?_
        · refine Reg.step_go rfl ?_
          intro a wi ki hf hd hS hc K hK
          have f11 : a.tmps.getD 11 undef = .int .i64 (i : Int) := hf.same 11 rfl
          clear hf hd hc
          have hK0 := Lib.hid hK; clear hK
          have hS0 := Lib.hid hS; clear hS
          go_simp
          exact hK0.out _ _ (Reg.Known.mk_val rfl rfl) (fun _ _ h => h) hS0.out
        refine Reg.Steps.zip ?_ ?_
        · refine Reg.step_go rfl ?_
          intro a wi ki hf hd hS hc K hK
          have e40 : a.tmps.getD 40 undef = .slice (some ⟨b, off, none⟩) N c := hd.1.plain rfl
          have e41 : a.tmps.getD 41 undef = .int .i64 (i : Int) := hd.2.1.plain rfl
          clear hf hd hc
          have hki := HKI.out
          have hK0 := Lib.hid hK; clear hK
          have hS0 := Lib.hid hS; clear hS
          go_simp
          exact hK0.out _ _ (Reg.Known.mk_val rfl rfl) (fun _ _ h => h) hS0.out
        refine Reg.Steps.zip ?_ ?_
        · refine Reg.step_go rfl ?_
          intro a wi ki hf hd hS hc K hK
          have e42 : a.tmps.getD 42 undef = .pointer (some ⟨b, off + i, none⟩) := hd.1.plain rfl
          clear hf hd hc
          have cc := hS.1.cel
          have hK0 := Lib.hid hK; clear hK
          have hS0 := Lib.hid hS; clear hS
          go_simp
          exact hK0.out _ _ (Reg.Known.mk_val rfl rfl) (fun _ _ h => h) hS0.out
        refine Reg.Steps.zip ?_ ?_
        · refine Reg.step_go rfl ?_
          intro a wi ki hf hd hS hc K hK
          have e43 : a.tmps.getD 43 undef = .int .u8 x := hd.1.plain rfl
          clear hf hd hc
          have fw := FW.out
          have hK0 := Lib.hid hK; clear hK
          have hS0 := Lib.hid hS; clear hS
          go_simp
          exact hK0.out _ _ (Reg.Known.mk_val rfl rfl) (fun _ _ h => h) hS0.out
        refine Reg.Steps.zip ?_ ?_
        · refine Reg.step_go rfl ?_
          intro a wi ki hf hd hS hc K hK
          have f7 : a.tmps.getD 7 undef = .int .i64 (m : Int) := hf.same 7 rfl
          clear hf hd hc
          have hK0 := Lib.hid hK; clear hK
          have hS0 := Lib.hid hS; clear hS
          go_simp
          exact hK0.out _ _ (Reg.Known.mk_val rfl rfl) (fun _ _ h => h) hS0.out
        refine Reg.Steps.zip ?_ ?_
        · refine Reg.step_go rfl ?_
          intro a wi ki hf hd hS hc K hK
          have e44 : a.tmps.getD 44 undef = .int .i64 x := hd.1.plain rfl
          have e45 : a.tmps.getD 45 undef = .int .i64 (m : Int) := hd.2.1.plain rfl
          clear hf hd hc
          have fm := FM.out
          have mz := MZ.out
          have mz2 := MZ2.out
          have fw := FV.out
          have hK0 := Lib.hid hK; clear hK
          have hS0 := Lib.hid hS; clear hS
          go_simp
          exact hK0.out _ _ (Reg.Known.mk_val rfl rfl) (fun _ _ h => h) hS0.out
        refine Reg.Steps.zip ?_ ?_
        · refine Reg.step_go rfl ?_
          intro a wi ki hf hd hS hc K hK
          have e39 : a.tmps.getD 39 undef = .int .i64 v := hd.1.plain rfl
          have e46 : a.tmps.getD 46 undef = .int .i64 v := hd.2.1.plain rfl
          clear hf hd hc
          have evv := EVV.out
          have hK0 := Lib.hid hK; clear hK
          have hS0 := Lib.hid hS; clear hS
          go_simp
          exact hK0.out _ _ (Reg.Known.mk_val rfl rfl) (fun _ _ h => h) hS0.out
        refine Reg.Steps.zip ?_ ?_
        · refine Reg.step_go rfl ?_
          intro a wi ki hf hd hS hc K hK
          have e47 : a.tmps.getD 47 undef = .bool false := hd.1.plain rfl
          obtain rfl := hc 1 rfl
          clear hf hd hc
          have hK0 := Lib.hid hK; clear hK
          have hS0 := Lib.hid hS; clear hS
          go_simp
          exact hK0.out _ _ (Reg.Known.mk_val rfl rfl) (fun _ _ h => h) ⟨hS0.out.1.mid, hS0.out.2⟩
        refine Reg.Steps.zip ?_ ?_
        · refine Reg.step_on rfl (fun u w h => h.plain rfl) ?_
          intro a wi ki hf hd hS hc K hK
          have f9 : a.tmps.getD 9 undef = .pointer (some ⟨p2, 0, none⟩) := hf.same 9 rfl
          clear hf hd hc
          have hK0 := Lib.hid hK; clear hK
          have hS0 := Lib.hid hS; clear hS
          go_simp
          exact hK0.out _ _ (Reg.Known.mk_val rfl rfl) (fun _ _ h => h) hS0.out
        refine Reg.Steps.zip ?_ ?_
        · refine Reg.step_on rfl (fun u w h => h.plain rfl) ?_
          intro a wi ki hf hd hS hc K hK
          have f7 : a.tmps.getD 7 undef = .int .i64 (m : Int) := hf.same 7 rfl
          clear hf hd hc
          have hK0 := Lib.hid hK; clear hK
          have hS0 := Lib.hid hS; clear hS
          go_simp
          exact hK0.out _ _ (Reg.Known.mk_val rfl rfl) (fun _ _ h => h) hS0.out
        refine Reg.Steps.zip ?_ ?_
        · refine Reg.step_on rfl (fun u w h => h.plain rfl) ?_
          intro a wi ki hf hd hS hc K hK
          have e49 : a.tmps.getD 49 undef = .pointer (some ⟨p2, 0, none⟩) := hd.1.plain rfl
          have e50 : a.tmps.getD 50 undef = .int .i64 (m : Int) := hd.2.1.plain rfl
          clear hf hd
          obtain rfl := hc 2 rfl
          have HS := Lib.hid hS; clear hS
          have hK0 := Lib.hid hK; clear hK hc
          go_simp
          refine (HN2.out wi HS.out.1.qq).mono ?_
          rintro e wA ⟨rfl, hp, hf⟩
          exact hK0.out _ _ (Reg.Known.mk_other rfl ⟨rfl, HS.out.1.keep1 hf HQ.out⟩) (fun i u h => known_keepX h (fun hx => hx.next (HS.out.1.keep1 hf HQ.out))) ⟨HS.out.1.two hp hf HQ.out, keep_second (W := w1) (lo1 := lo2) HS.out.2 hf HQ23.out⟩
        refine Reg.Steps.zip ?_ ?_
        · refine Reg.step_on rfl (fun u w h => h.plain rfl) ?_
          intro a wi ki hf hd hS hc K hK
          have f0 : a.tmps.getD 0 undef = .slice (some ⟨b, off, none⟩) N c := hf.same 0 rfl
          clear hf hd hc
          have hK0 := Lib.hid hK; clear hK
          have hS0 := Lib.hid hS; clear hS
          go_simp
          exact hK0.out _ _ (Reg.Known.mk_val rfl rfl) (fun _ _ h => h) hS0.out
        refine Reg.Steps.zip ?_ ?_
        · refine Reg.step_on rfl (fun u w h => h.plain rfl) ?_
          intro a wi ki hf hd hS hc K hK
          have f11 : a.tmps.getD 11 undef = .int .i64 (i : Int) := hf.same 11 rfl
          clear hf hd hc
          have hK0 := Lib.hid hK; clear hK
          have hS0 := Lib.hid hS; clear hS
          go_simp
          exact hK0.out _ _ (Reg.Known.mk_val rfl rfl) (fun _ _ h => h) hS0.out
        refine Reg.Steps.zip ?_ ?_
        · refine Reg.step_on rfl (fun u w h => h.plain rfl) ?_
          intro a wi ki hf hd hS hc K hK
          have e52 : a.tmps.getD 52 undef = .slice (some ⟨b, off, none⟩) N c := hd.1.plain rfl
          have e53 : a.tmps.getD 53 undef = .int .i64 (i : Int) := hd.2.1.plain rfl
          clear hf hd hc
          have hki := HKI.out
          have hK0 := Lib.hid hK; clear hK
          have hS0 := Lib.hid hS; clear hS
          go_simp
          exact hK0.out _ _ (Reg.Known.mk_val rfl rfl) (fun _ _ h => h) hS0.out
        refine Reg.Steps.zip ?_ ?_
        · refine Reg.step_on rfl (fun u w h => h.plain rfl) ?_
          intro a wi ki hf hd hS hc K hK
          have e54 : a.tmps.getD 54 undef = .pointer (some ⟨b, off + i, none⟩) := hd.1.plain rfl
          clear hf hd hc
          have cc := hS.1.cel
          have hK0 := Lib.hid hK; clear hK
          have hS0 := Lib.hid hS; clear hS
          go_simp
          exact hK0.out _ _ (Reg.Known.mk_val rfl rfl) (fun _ _ h => h) hS0.out
        refine Reg.Steps.zip ?_ ?_
        · refine Reg.step_on rfl (fun u w h => h.plain rfl) ?_
          intro a wi ki hf hd hS hc K hK
          have e55 : a.tmps.getD 55 undef = .int .u8 x := hd.1.plain rfl
          clear hf hd hc
          have fw := FW.out
          have hK0 := Lib.hid hK; clear hK
          have hS0 := Lib.hid hS; clear hS
          go_simp
          exact hK0.out _ _ (Reg.Known.mk_val rfl rfl) (fun _ _ h => h) hS0.out
        refine Reg.Steps.zip ?_ ?_
        · refine Reg.step_on rfl (fun u w h => h.plain rfl) ?_
          intro a wi ki hf hd hS hc K hK
          have f7 : a.tmps.getD 7 undef = .int .i64 (m : Int) := hf.same 7 rfl
          clear hf hd hc
          have hK0 := Lib.hid hK; clear hK
          have hS0 := Lib.hid hS; clear hS
          go_simp
          exact hK0.out _ _ (Reg.Known.mk_val rfl rfl) (fun _ _ h => h) hS0.out
        refine Reg.Steps.zip ?_ ?_
        · refine Reg.step_on rfl (fun u w h => h.plain rfl) ?_
          intro a wi ki hf hd hS hc K hK
          have e56 : a.tmps.getD 56 undef = .int .i64 x := hd.1.plain rfl
          have e57 : a.tmps.getD 57 undef = .int .i64 (m : Int) := hd.2.1.plain rfl
          clear hf hd hc
          have fm := FM.out
          have mz := MZ.out
          have mz2 := MZ2.out
          have fw := FV.out
          have hK0 := Lib.hid hK; clear hK
          have hS0 := Lib.hid hS; clear hS
          go_simp
          exact hK0.out _ _ (Reg.Known.mk_val rfl rfl) (fun _ _ h => h) hS0.out
        refine Reg.Steps.zip ?_ ?_
        · refine Reg.step_on rfl (fun u w h => h.plain rfl) ?_
          intro a wi ki hf hd hS hc K hK
          have x51 := hd.1.other rfl
          have e58 : a.tmps.getD 58 undef = .int .i64 v := hd.2.1.plain rfl
          clear hf hd hc
          have e51 := x51.1
          have evv := EVV.out
          have hK0 := Lib.hid hK; clear hK
          have hS0 := Lib.hid hS; clear hS
          go_simp
          exact hK0.out _ _ (Reg.Known.mk_val rfl rfl) (fun _ _ h => h) hS0.out
        refine Reg.Steps.zip ?_ ?_
        · refine Reg.step_go rfl ?_
          intro a wi ki hf hd hS hc K hK
          have e48 : a.tmps.getD 48 undef = .bool false := hd.1.plain rfl
          have e59 : a.tmps.getD 59 undef = .bool false := hd.2.1.plain rfl
          clear hf hd hc
          have hK0 := Lib.hid hK; clear hK
          have hS0 := Lib.hid hS; clear hS
          go_simp
          exact hK0.out _ _ (Reg.Known.mk_val rfl rfl) (fun _ _ h => h) hS0.out
        refine Reg.Steps.zip ?_ ?_
        · refine Reg.step_go rfl ?_
          intro a wi ki hf hd hS hc K hK
          have e60 : a.tmps.getD 60 undef = .bool false := hd.1.plain rfl
          have x51 := hd.2.1.other rfl
          clear hf hd
          have hq := x51.2
          have hK0 := Lib.hid hK; clear hK
          have hS0 := Lib.hid hS; clear hS
          have HQQ := Lib.hid hq; clear hq
          go_simp
          exact hK0.out _ _ (Reg.Known.mk_other rfl ⟨rfl, HQQ.out⟩) (fun _ _ h => h) hS0.out
        refine Reg.Steps.zip ?_ ?_
        · refine Reg.step_on rfl (fun u w h => (h.other rfl).1) ?_
          intro a wi ki hf hd hS hc K hK
          have f8 : a.tmps.getD 8 undef = .pointer (some ⟨p1, 0, none⟩) := hf.same 8 rfl
          clear hf hd hc
          have hK0 := Lib.hid hK; clear hK
          have hS0 := Lib.hid hS; clear hS
          go_simp
          exact hK0.out _ _ (Reg.Known.mk_val rfl rfl) (fun _ _ h => h) hS0.out
        refine Reg.Steps.zip ?_ ?_
        · refine Reg.step_on rfl (fun u w h => (h.other rfl).1) ?_
          intro a wi ki hf hd hS hc K hK
          have e62 : a.tmps.getD 62 undef = .pointer (some ⟨p1, 0, none⟩) := hd.1.plain rfl
          have x61 := hd.2.1.other rfl
          clear hf hd
          have HP := Lib.hid x61.2
          have hK0 := Lib.hid hK; clear hK
          have hS0 := Lib.hid hS; clear hS
          go_simp
          refine (left_any p1 g1 lo1 l2 s1 wi HP.out).mono ?_
          rintro e wA ⟨rfl, rfl⟩
          rw [HLN.out]
          exact hK0.out _ _ (Reg.Known.mk_val rfl rfl) (fun _ _ h => h) hS0.out
        refine Reg.Steps.zip ?_ ?_
        · refine Reg.step_on rfl (fun u w h => (h.other rfl).1) ?_
          intro a wi ki hf hd hS hc K hK
          have f0 : a.tmps.getD 0 undef = .slice (some ⟨b, off, none⟩) N c := hf.same 0 rfl
          clear hf hd hc
          have hK0 := Lib.hid hK; clear hK
          have hS0 := Lib.hid hS; clear hS
          go_simp
          exact hK0.out _ _ (Reg.Known.mk_val rfl rfl) (fun _ _ h => h) hS0.out
        refine Reg.Steps.zip ?_ ?_
        · refine Reg.step_on rfl (fun u w h => (h.other rfl).1) ?_
          intro a wi ki hf hd hS hc K hK
          have e64 : a.tmps.getD 64 undef = .slice (some ⟨b, off, none⟩) N c := hd.1.plain rfl
          clear hf hd hc
          have hK0 := Lib.hid hK; clear hK
          have hS0 := Lib.hid hS; clear hS
          go_simp
          exact hK0.out _ _ (Reg.Known.mk_val rfl rfl) (fun _ _ h => h) hS0.out
        refine Reg.Steps.zip ?_ ?_
        · refine Reg.step_on rfl (fun u w h => (h.other rfl).1) ?_
          intro a wi ki hf hd hS hc K hK
          have f11 : a.tmps.getD 11 undef = .int .i64 (i : Int) := hf.same 11 rfl
          clear hf hd hc
          have hK0 := Lib.hid hK; clear hK
          have hS0 := Lib.hid hS; clear hS
          go_simp
          exact hK0.out _ _ (Reg.Known.mk_val rfl rfl) (fun _ _ h => h) hS0.out
        refine Reg.Steps.zip ?_ ?_
        · refine Reg.step_on rfl (fun u w h => (h.other rfl).1) ?_
          intro a wi ki hf hd hS hc K hK
          have e65 : a.tmps.getD 65 undef = .int .i64 (N : Int) := hd.1.plain rfl
          have e66 : a.tmps.getD 66 undef = .int .i64 (i : Int) := hd.2.1.plain rfl
          clear hf hd hc
          have fs := FS1.out
          have hK0 := Lib.hid hK; clear hK
          have hS0 := Lib.hid hS; clear hS
          go_simp
          exact hK0.out _ _ (Reg.Known.mk_val rfl rfl) (fun _ _ h => h) hS0.out
        refine Reg.Steps.zip ?_ ?_
        · refine Reg.step_on rfl (fun u w h => (h.other rfl).1) ?_
          intro a wi ki hf hd hS hc K hK
          have e67 : a.tmps.getD 67 undef = .int .i64 ((N : Int) - i) := hd.1.plain rfl
          clear hf hd hc
          have fs := FS2.out
          have hK0 := Lib.hid hK; clear hK
          have hS0 := Lib.hid hS; clear hS
          go_simp
          exact hK0.out _ _ (Reg.Known.mk_val rfl rfl) (fun _ _ h => h) hS0.out
        refine Reg.Steps.zip ?_ ?_
        · refine Reg.step_on rfl (fun u w h => (h.other rfl).1) ?_
          intro a wi ki hf hd hS hc K hK
          have e63 : a.tmps.getD 63 undef = .int .i64 (nl : Int) := hd.1.plain rfl
          have e68 : a.tmps.getD 68 undef = .int .i64 (nl : Int) := hd.2.1.plain rfl
          clear hf hd hc
          have enn := ENN.out
          have hK0 := Lib.hid hK; clear hK
          have hS0 := Lib.hid hS; clear hS
          go_simp
          exact hK0.out _ _ (Reg.Known.mk_val rfl rfl) (fun _ _ h => h) hS0.out
        refine Reg.Steps.zip ?_ ?_
        · refine Reg.step_go rfl ?_
          intro a wi ki hf hd hS hc K hK
          have x61 := hd.1.other rfl
          have e69 : a.tmps.getD 69 undef = .bool false := hd.2.1.plain rfl
          clear hf hd hc
          have e61 := x61.1
          have hK0 := Lib.hid hK; clear hK
          have hS0 := Lib.hid hS; clear hS
          go_simp
          exact hK0.out _ _ (Reg.Known.mk_val rfl rfl) (fun _ _ h => h) hS0.out
        exact Reg.Steps.nil
      case finish =>
        intro a8 w8 hf hd hS8
        obtain ⟨u, hu⟩ : ∃ u : Nat → Value, u = fun s => a8.tmps.getD s undef := ⟨_, rfl⟩
        have e70 : u 70 = .bool false := by rw [hu]; exact hd.1.plain rfl
        rw [hf.eq, ← hu]
        clear hf hu hd
        have S8 := Lib.hid hS8
        clear hS8 HST
        simp (config := { maxSteps := 10000000 }) [Reg.filled, e70]
        clear e70
        go_wp2_with fail
        go_roundw
        case rel => exact ⟨i + 1, by omega, by go_num, by rw [HL2.out]; exact S8.out.1.a, by rw [HL2.out]; exact S8.out.1.q, S8.out.2, S8.out.1.old⟩
        case measure => simp [intOf]; omega
    · obtain rfl : i = N := by omega
      have hd0 : l.drop i = [] := List.drop_eq_nil_of_le (by rw [HN.out]; omega)
      rw [hd0] at PA PQ
      clear hd0
      obtain ⟨wo, rfl⟩ : ∃ wo : World, wo = wr := ⟨_, rfl⟩
      go_wp2_with fail
      go_loopw [12] (fun j wr => ∃ (k s : Nat), k ≤ 20 ∧ j = .int .i64 k ∧ s < 18446744073709551616 ∧ PicksB wr lo1 p1 g1 [] s ∧ PicksB wr lo2 p2 g2 [] s2 ∧ PicksB wr lo3 p3 g3 [] s ∧ Below w1.heap.size w1 wr) (fun j _ => 20 - (intOf j).toNat)
      case atStart => exact ⟨0, s1, by omega, rfl, H1.out, PA.out, PQ.out, PO.out, BL.out⟩
      case round =>
        obtain ⟨k, s, hk, rfl, hs, ha, hq, ho, hb⟩ := hrel
        clear PA PQ PO BL
        have PA := Lib.hid ha; have PQ := Lib.hid hq; have PO := Lib.hid ho; have BL := Lib.hid hb; have HS := Lib.hid hs
        clear ha hq ho hb hs
        by_cases hk20 : k < 20
        · have HN1 := Lib.hid (nextPick_nil m m lo1 p1 g1 s wr PA.out HS.out HCHO.out (by omega))
          have HN3 := Lib.hid (fun wi (h : PicksB wi lo3 p3 g3 [] s) => nextPick_nil m m lo3 p3 g3 s wi h HS.out HCHO.out (by omega))
          have HSL := Lib.hid (pickS_lt (l := []) HS.out)
          obtain ⟨v, hv⟩ : ∃ v, pickV [] s m = v := ⟨_, rfl⟩
          obtain ⟨s', hs'⟩ : ∃ s', pickS [] s = s' := ⟨_, rfl⟩
          rw [hv, hs'] at HN1 HN3; rw [hs'] at HSL
          have ev : (v != v) = false := by simp
          clear hv hs'
          go_wp2_with fail
          refine HN1.out.mono ?_
          rintro e w5 ⟨rfl, hp, hf⟩
          have A5 := Lib.hid hp; have Q5 := Lib.hid (keep_second (W := w1) (lo1 := lo1) PQ.out hf HQ.out); have O5 := Lib.hid (keep_second (W := w1) (lo1 := lo1) PO.out hf HQ3.out)
          have B5 := Lib.hid (pair_below BL.out hf (by have := HQ.out; unfold Apart at this; omega) (by have := HQ.out; unfold Apart at this; omega))
          clear hp hf PA PQ PO BL
          go_wp2_with fail
          refine (HN3.out w5 O5.out).mono ?_
          rintro e w6 ⟨rfl, hp, hf⟩
          have O6 := Lib.hid hp; have A6 := Lib.hid (keep_first (W := w1) (lo2 := lo3) A5.out hf HQ3.out); have Q6 := Lib.hid (keep_first (W := w1) (lo2 := lo3) Q5.out hf HQ23.out)
          have B6 := Lib.hid (pair_below B5.out hf (by have := HQ3.out; unfold Apart at this; omega) (by have := HQ3.out; unfold Apart at this; omega))
          clear hp hf A5 Q5 O5 B5
          go_wp2_with fail
          go_roundw
          case rel => exact ⟨k + 1, s', by omega, by go_num, HSL.out, A6.out, Q6.out, O6.out, B6.out⟩
          case measure => simp [intOf]; omega
        · go_wp2_with fail
          refine (left_any p1 g1 lo1 [] s wr PA.out).mono ?_
          rintro e w' ⟨rfl, rfl⟩
          rw [show ((([] : List Int).length : Nat) : Int) = 0 from rfl]
          go_wp2_with fail
          refine (left_any p2 g2 lo2 [] s2 wr PQ.out).mono ?_
          rintro e w' ⟨rfl, rfl⟩
          rw [show ((([] : List Int).length : Nat) : Int) = 0 from rfl]
          go_wp2_with fail
          go_ret
          exact ⟨rfl, B1.out.trans (BL.out.mono B1.out.size)⟩

/- The claim. -/

set_option maxRecDepth 100000 in
theorem lifted (os : Os) (started : os.Started) (H : Type) (enc : TypeId × Value → H) :
    ReturnsInHanded {} Try.checked os 10 .any (Rows.picksFirstSpec.pre6 enc Try.prog Try.f10 Rows.picksFirstRow.domain false) (Rows.picksFirstSpec.post enc Try.prog Try.f10 false true false false) := by
  refine returnsInHanded_of_change (C := Try.checked) ownKnobs started (by kernel_rfl) Try.func10
    (ChangeSpec.witness6 (enc := enc) (C := Try.checked) false ⟨#[], #[.slice none 0 0, .int .u64 0, .int .u8 0], []⟩ 8 (by kernel_rfl) (by kernel_rfl) (by kernel_rfl) (by kernel_rfl)) ?_
  intro W base args ds gs before hval hW _ _
  refine law_contract rfl rfl (fun ds h => by match ds, h with | [d1, d2, d3], _ => rfl) (by decide +kernel) hW ?_
  obtain ⟨p, q, hA0, _⟩ := hW
  have hA : DataW.TrodAll enc Try.prog W 0 (fun _ => true) true Try.f10.params.toList args.toList ds p := hA0
  have hval' : ∀ (j : Nat) t v, Try.f10.params[j]? = some t → args[j]? = some v → Value.okWide Try.prog W .any base t v := hval
  rw [Try.params10] at hA hval'
  obtain ⟨v0, vs0, d0, ds0, p0, q0, hargs, rfl, rfl, h0, r0⟩ := trodAll_cons hA
  obtain ⟨v1, vs1, d1, ds1, p1, q1, rfl, rfl, rfl, h1, r1⟩ := trodAll_cons r0
  obtain ⟨v2, vs2, d2, ds2, p2, q2, rfl, rfl, rfl, h2, r2⟩ := trodAll_cons r1
  obtain ⟨rfl, rfl, rfl⟩ := trodAll_nil r2
  obtain rfl : args = #[v0, v1, v2] := by cases args; simp_all
  obtain ⟨l0, h0, m0, y0⟩ := open_bytv (hval' 0 _ v0 rfl rfl) h0
  obtain ⟨z1, rfl, rfl, rfl, w1⟩ := open_int Try.underlying34 (hval' 1 _ v1 rfl rfl) h1
  have b1 : 0 ≤ z1 ∧ z1 ≤ 18446744073709551615 := by simpa [Lit.wf, IntKind.min, IntKind.max, IntKind.signed, IntKind.bits] using w1
  obtain ⟨a1, rfl⟩ : ∃ n : Nat, z1 = n := ⟨z1.toNat, by omega⟩
  obtain ⟨z2, rfl, rfl, rfl, w2⟩ := open_int Try.underlying5 (hval' 2 _ v2 rfl rfl) h2
  have b2 : 0 ≤ z2 ∧ z2 ≤ 255 := by simpa [Lit.wf, IntKind.min, IntKind.max, IntKind.signed, IntKind.bits] using w2
  obtain ⟨a2, rfl⟩ : ∃ n : Nat, z2 = n := ⟨z2.toNat, by omega⟩
  exact walk v0 l0 a1 a2 W h0 m0 y0 (by omega) (by omega)

theorem proved : Rows.PicksFirstSaid :=
  OpenClaim.holds_of_wide 10 Try.f10 rfl rfl rfl rfl rfl rfl rfl ⟨rfl, rfl, rfl, rfl, rfl⟩ rfl rfl rfl rfl rfl (by kernel_rfl) Try.func10 (by kernel_rfl)
    (of_decide_eq_true (by kernel_rfl)) (by unfold Func.isWrapper; first | (rw [if_pos (by decide +kernel)]; kernel_rfl) | (rw [if_neg (by decide +kernel)]; exact ⟨rfl, rfl⟩))
    (fun os started H enc _ => lifted os started H enc)

end Go.Proofs.Ytnelaeafjejjgaa.picksFirst
