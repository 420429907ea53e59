/- LatticeTells returns true for every input and changes nothing: New makes a lattice of exactly the tables that are lattices, and its methods answer as the document says, for any labels and other numbers. No condition. -/
import Derived.Test.YtidjohhnggpibaaKnown3
import Derived.Test.YtidjohhnggpibaaSmall
import Derived.Test.YtidjohhnggpibaaArgT
import Derived.StillTailTactics
import Derived.Deep.CutRange
import Derived.Deep.DeepCutAuto
namespace Go.Proofs.Ytidjohhnggpibaa.latticeTells
open Go.RowKit Go.ChangeShapes Go.WideShapes Go.ChangeAt

theorem intsB_self (l : List Int) : intsB l l = true := by simp [intsB]
theorem belowT_len (T : List (List Bool)) (a : Int) : (nats (belowT T a)).length ≤ T.length := by
  rw [nats_length]
  have := belowK_len T T.length a
  unfold belowK at this
  exact this
/-- The world within a statement that makes one block. -/
def AtP (wd we : World) (k : Nat) (w' : World) : Prop := if k = 0 then w' = wd else w' = we
/-- What stays while a lattice is asked. -/
structure Hold (w0 : World) (xv : Value) (T : List (List Bool)) (lo g gb : Nat) (y0 y1 : Int) (k : Nat) (w : World) : Prop where
  tab : TabV w w.heap.size xv T
  lat : LatV w lo w.heap.size g T
  c0 : w.cell? ⟨gb, 0, none⟩ = some (.int .i64 y0)
  c1 : w.cell? ⟨gb, 1, none⟩ = some (.int .i64 y1)
  lt : gb < w.heap.size
  b : Below w0.heap.size w0 w
theorem Hold.step {w0 w w' : World} {xv : Value} {T : List (List Bool)} {lo g gb : Nat} {y0 y1 : Int} {k k' : Nat} (h : Hold w0 xv T lo g gb y0 y1 k w) (hb : Below w.heap.size w w') : Hold w0 xv T lo g gb y0 y1 k' w' :=
  ⟨h.tab.later hb, h.lat.later hb, (hb.cell (p := ⟨gb, 0, none⟩) h.lt).trans h.c0, (hb.cell (p := ⟨gb, 1, none⟩) h.lt).trans h.c1, Nat.lt_of_lt_of_le h.lt hb.size, nextB h.b hb⟩
theorem FG.drew {w : World} {base n k : Nat} {v : Value} {G C : Nat → Nat} {Z : Nat → Nat → Bool} (h : FG w base v n k G C Z) : FG w.drew base v n k G C Z := h.below (Below.refl _ _).drew
theorem Hold.drew {w0 w : World} {xv : Value} {T : List (List Bool)} {lo g gb : Nat} {y0 y1 : Int} {k : Nat} (h : Hold w0 xv T lo g gb y0 y1 k w) : Hold w0 xv T lo g gb y0 y1 k w.drew := h.step (Below.refl _ _).drew
def lt19Val (A : Option Addr) (N c' gy : Nat) (pa pb : Int) (x y am bm : Nat) : Nat → Value
  | 0 => .int .i64 pa
  | 1 => .int .i64 pb
  | 2 => .agg #[.int .i64 pa, .int .i64 pb]
  | 3 => .int .u8 (x : Int)
  | 4 => .int .i64 (x : Int)
  | 5 => .slice A N c'
  | 6 => .int .i64 (N : Int)
  | 7 => .int .i64 (am : Int)
  | 8 => .int .u8 (y : Int)
  | 9 => .int .i64 (y : Int)
  | 10 => .slice A N c'
  | 11 => .int .i64 (N : Int)
  | 12 => .int .i64 (bm : Int)
  | 13 => .agg #[.int .i64 (am : Int), .int .i64 (bm : Int)]
  | 14 => .int .i64 pa
  | 15 => .int .i64 (bits .and .i64 pa 7)
  | 16 => .int .i64 pb
  | 17 => .int .i64 (bits .and .i64 pb 15)
  | 18 => .agg #[.int .i64 (bits .and .i64 pa 7), .int .i64 (bits .and .i64 pb 15)]
  | 19 => .slice (some ⟨gy, 0, none⟩) 3 3
  | 20 => .int .i64 3
  | 21 => (Value.int IntKind.i64 0)
  | _ => undef

def lt22Val (A : Option Addr) (N c' g gb : Nat) (y0 y1 jn mt : Int) (fl : Bool) : Nat → Value
  | 0 => .pointer (some ⟨g, 0, none⟩)
  | 1 => .pointer (some ⟨gb, 0, none⟩)
  | 2 => .int .i64 y0
  | 3 => .pointer (some ⟨gb, 1, none⟩)
  | 4 => .int .i64 y1
  | 5 => .bool fl
  | 6 => .slice A N c'
  | 7 => .pointer (some ⟨gb, 0, none⟩)
  | 8 => .int .i64 y0
  | 9 => .pointer (some ⟨gb, 1, none⟩)
  | 10 => .int .i64 y1
  | 11 => .bool fl
  | 12 => .bool false
  | 13 => .bool false
  | 14 => .pointer (some ⟨g, 0, none⟩)
  | 15 => .pointer (some ⟨gb, 0, none⟩)
  | 16 => .int .i64 y0
  | 17 => .pointer (some ⟨gb, 1, none⟩)
  | 18 => .int .i64 y1
  | 19 => .int .i64 jn
  | 20 => .slice A N c'
  | 21 => .pointer (some ⟨gb, 0, none⟩)
  | 22 => .int .i64 y0
  | 23 => .pointer (some ⟨gb, 1, none⟩)
  | 24 => .int .i64 y1
  | 25 => .int .i64 jn
  | 26 => .bool false
  | 27 => .bool false
  | 28 => .bool false
  | 29 => .pointer (some ⟨g, 0, none⟩)
  | 30 => .pointer (some ⟨gb, 0, none⟩)
  | 31 => .int .i64 y0
  | 32 => .pointer (some ⟨gb, 1, none⟩)
  | 33 => .int .i64 y1
  | 34 => .int .i64 mt
  | 35 => .slice A N c'
  | 36 => .pointer (some ⟨gb, 0, none⟩)
  | 37 => .int .i64 y0
  | 38 => .pointer (some ⟨gb, 1, none⟩)
  | 39 => .int .i64 y1
  | 40 => .int .i64 mt
  | 41 => .bool false
  | 42 => .bool false
  | 43 => .bool false
  | 44 => .pointer (some ⟨g, 0, none⟩)
  | 45 => .pointer (some ⟨gb, 0, none⟩)
  | 46 => .int .i64 y0
  | 48 => .slice A N c'
  | 49 => .pointer (some ⟨gb, 0, none⟩)
  | 50 => .int .i64 y0
  | 52 => .bool true
  | 53 => .bool false
  | 54 => .bool false
  | _ => undef


set_option maxRecDepth 100000 in
set_option maxHeartbeats 32000000 in
theorem walk {rv : Value} {T0 : List (List Bool)} (k x y : Nat) (turn : Bool) (pa pb : Int) (w : World) (hk : k ≤ 255) (hx : x ≤ 255) (hy : y ≤ 255)
    (_ha : -9223372036854775808 ≤ pa ∧ pa ≤ 9223372036854775807) (_hb : -9223372036854775808 ≤ pb ∧ pb ≤ 9223372036854775807) (hr : TabV w w.heap.size rv T0) :
    Calls Try.prog 3 #[rv, .int .u8 k, .int .u8 x, .int .u8 y, .bool turn, .int .i64 pa, .int .i64 pb] w fun e w' => e = .returned (.bool true) ∧ Below w.heap.size w w' := by
  obtain ⟨A0, n0, c0, rfl⟩ : ∃ A0 n0 c0, rv = .slice A0 n0 c0 := by
    obtain ⟨A, c, rs, e, _⟩ := hr
    exact ⟨A, _, c, e⟩
  have HR := Lib.hid hr; clear hr
  cases hsm : smallB T0 with
  | false =>
    go_enter Try.func3, Try.ntmps3
    go_wp2_with fail
    refine (known_any w).mono ?_
    rintro e w1 ⟨rfl, hb1⟩
    have q := small_any w1 (HR.out.later hb1)
    rw [hsm] at q
    have Q := Lib.hid q; clear q hsm
    go_wp2_with fail
    refine Q.out.mono ?_
    rintro e w' ⟨rfl, rfl⟩
    go_wp2_with fail
    go_ret
    exact ⟨rfl, hb1⟩
  | true =>
  have hT0 : T0.length ≤ 20 := (smallB_iff.1 hsm).1
  obtain ⟨n, hn⟩ : ∃ n, seatN k = n := ⟨_, rfl⟩
  have hn2 := seatN_le k
  rw [hn] at hn2
  have HSE := Lib.hid (seat_any k hk); rw [hn] at HSE
  generalize seatZ k = Z at *
  clear hn
  obtain ⟨i, hi⟩ : ∃ i : Nat, x % n = i := ⟨_, rfl⟩
  obtain ⟨j, hj⟩ : ∃ j : Nat, y % n = j := ⟨_, rfl⟩
  have hin : i < n := by rw [← hi]; exact Nat.mod_lt _ (by omega)
  have hjn : j < n := by rw [← hj]; exact Nat.mod_lt _ (by omega)
  have hii : (x : Int) % (n : Int) = i := by omega
  have hji : (y : Int) % (n : Int) = j := by omega
  have hit : (x : Int).tmod (n : Int) = i := by rw [Int.tmod_eq_emod_of_nonneg (by omega)]; exact hii
  have hjt : (y : Int).tmod (n : Int) = j := by rw [Int.tmod_eq_emod_of_nonneg (by omega)]; exact hji
  have hn0 : ((n : Int) == 0) = false := by simp; omega
  have hnz : (n : Int) ≠ 0 := by omega
  clear hi hj
  go_enter Try.func3, Try.ntmps3
  go_wp2_with fail
  refine (known_any w).mono ?_
  rintro e w1 ⟨rfl, hb1⟩
  have q := small_any w1 (HR.out.later hb1)
  rw [hsm] at q
  have Q := Lib.hid q; clear q hsm
  have B1 := Lib.hid hb1; clear hb1
  go_wp2_with fail
  refine Q.out.mono ?_
  rintro e w' ⟨rfl, rfl⟩
  clear Q
  go_wp2_with fail
  refine (HSE.out w1).mono ?_
  rintro e w2 ⟨qv, Gq, Cq, rfl, hg, hb⟩
  obtain ⟨gq, cq, rfl, hxx⟩ := hg.grid (by omega)
  clear hxx
  have HQ := Lib.hid hg.tab; clear hg
  have B2 := Lib.hid (nextB B1.out hb); clear hb
  go_wp2_with fail
  refine (HSE.out w2).mono ?_
  rintro e w3 ⟨mv, G, C, rfl, hg, hb⟩
  obtain ⟨gm, cm, rfl, hlo, _, htop, _⟩ := hg.grid (by omega)
  have t1 := htop i hin
  have t2 := hg.rows.cell hin hjn
  have t3 := hg.rows.frozen (i := j) hin
  have hlo2 := hg.rows.lo i hin
  have HB23 := Lib.hid hb
  have HFG := Lib.hid hg; clear hg htop
  have B3 := Lib.hid (nextB B2.out hb); clear hb HSE
  have HS2 := Lib.hid B2.out.size
  go_upto_if 34 with (fail)
  go_cut [17, 18] from 34 to 58 (fun _ _ wx => ∃ T2 : List (List Bool), T2.length = n ∧ TabV wx wx.heap.size (.slice (some ⟨gm, 0, none⟩) n cm) T2 ∧ TabV wx wx.heap.size (.slice (some ⟨gq, 0, none⟩) n cq) (tabOf n Z) ∧ Below w.heap.size w wx)
  case first =>
    cases turn with
    | false =>
      clear t1 t2 t3
      go_wp2_with fail
      go_meet
      exact ⟨_, tabOf_length _ _, HFG.out.tab, HQ.out.later HB23.out, B3.out⟩
    | true =>
      go_wp2_with fail
      go_quiet (fail)
      obtain ⟨w4, hw4⟩ : ∃ w4 : World, w4 = w3.drewN nq := ⟨_, rfl⟩
      have hb : Below w3.heap.size w3 w4 := by rw [hw4]; exact below_drewN (Below.refl _ _) nq
      have t1' : w4.cell? ⟨gm, i, none⟩ = some (.slice (some ⟨G i, 0, none⟩) n (C i)) := by rw [hw4]; exact t1
      have t2' : w4.cell? ⟨G i, j, none⟩ = some (.bool (Z i j)) := by rw [hw4]; exact t2
      have t3' : w4.frozen? ⟨G i, j, none⟩ = false := by rw [hw4]; exact t3
      have HF5 := Lib.hid ((HFG.out.below hb).set (b := j) hin (!Z i j))
      have HQ5 := Lib.hid (show Below w2.heap.size w2 (w4.setCell ⟨G i, j, none⟩ (.bool !Z i j)) from (nextB HB23.out hb).setCell (p := ⟨G i, j, none⟩) hlo2 _)
      have HB5 := Lib.hid (nextB B2.out HQ5.out)
      rw [← hw4]
      clear hw4 hb t1 t2 t3 hii hji hit hjt
      have i1 : (0 : Int) ≤ (i : Int) ∧ (i : Int) < n := by omega
      have i2 : (0 : Int) ≤ (j : Int) ∧ (j : Int) < n := by omega
      have HD := Lib.hid (show ∀ w' : World, w' = (w4.setCell ⟨G i, j, none⟩ (.bool !Z i j)).drew → TabV w' w'.heap.size (.slice (some ⟨gm, 0, none⟩) n cm) (tabOf n fun a b => if a = i ∧ b = j then !Z i j else Z a b) ∧ TabV w' w'.heap.size (.slice (some ⟨gq, 0, none⟩) n cq) (tabOf n Z) ∧ Below w.heap.size w w' from fun w' e => by
        subst e
        exact ⟨(FG.drew HF5.out).tab, HQ.out.later HQ5.out.drew, HB5.out.drew⟩)
      clear HF5 HQ5 HB5
      generalize G i = gi at *
      generalize C i = ci at *
      generalize Z i j = zz at *
      go_wp2_with fail
      go_still_tail 14, (by kernel_rfl)
      change wpList _ _ _ _ _ w4.drew
      go_wp2_with fail
      go_meet
      obtain ⟨d1, d2, d3⟩ := HD.out _ rfl
      exact ⟨_, tabOf_length _ _, d1, d2, d3⟩
  case rest =>
    clear HFG HQ B3 HB23 HS2 B2 B1 t1 t2 t3 hlo2
    obtain ⟨T2, hT2, ht1, ht2, hbx⟩ := hcut
    have HM := Lib.hid ht1; clear ht1
    have HQ := Lib.hid ht2; clear ht2
    have BX := Lib.hid hbx; clear hbx
    go_wp2_with fail
    clear hin hjn hii hji hit hjt hn0 hnz
    obtain ⟨w5, hw5⟩ : ∃ w5 : World, w5 = wc.alloc (.cells #[Value.slice A0 n0 c0, Value.slice (some ⟨gq, 0, none⟩) n cq, Value.slice (some ⟨gm, 0, none⟩) n cm] 22) := ⟨_, rfl⟩
    have b5 : Below wc.heap.size wc w5 := by rw [hw5]; exact below_alloc _ _
    have hs5 : w5.heap.size = wc.heap.size + 1 := by rw [hw5, World.size_alloc]
    have hX : Lies w5 w5.heap.size (some ⟨wc.heap.size, 0, none⟩) [Value.slice A0 n0 c0, Value.slice (some ⟨gq, 0, none⟩) n cq, Value.slice (some ⟨gm, 0, none⟩) n cm] := by
      rw [hs5, hw5]; exact lies_new wc [Value.slice A0 n0 c0, Value.slice (some ⟨gq, 0, none⟩) n cq, Value.slice (some ⟨gm, 0, none⟩) n cm] 22
    have hT : ∀ v ∈ [Value.slice A0 n0 c0, Value.slice (some ⟨gq, 0, none⟩) n cq, Value.slice (some ⟨gm, 0, none⟩) n cm], ∃ T : List (List Bool), TabV w5 w5.heap.size v T := by
      intro v hv
      simp only [List.mem_cons, List.not_mem_nil, or_false] at hv
      rcases hv with rfl | rfl | rfl
      · exact ⟨T0, (HR.out.later BX.out).later b5⟩
      · exact ⟨tabOf n Z, HQ.out.later b5⟩
      · exact ⟨T2, HM.out.later b5⟩
    obtain ⟨vs, hvs⟩ : ∃ vs, vs = [Value.slice A0 n0 c0, Value.slice (some ⟨gq, 0, none⟩) n cq, Value.slice (some ⟨gm, 0, none⟩) n cm] := ⟨_, rfl⟩
    have hvl : vs.length = 3 := by rw [hvs]; rfl
    rw [← hvs] at hX hT
    rw [← hw5]
    have HX := Lib.hid hX; clear hX
    have HT := Lib.hid hT; clear hT
    have HVL := Lib.hid hvl; clear hvl
    have B5 := Lib.hid (nextB BX.out b5)
    obtain ⟨gx, hgx⟩ : ∃ gx, wc.heap.size = gx := ⟨_, rfl⟩
    rw [hgx] at HX ⊢
    clear hvs hw5 b5 hs5 HM HQ BX hT2 hgx HR
    go_loopw [64] (fun i wr => ∃ j : Nat, j ≤ 3 ∧ i = .int .i64 j ∧ Below w5.heap.size w5 wr) (fun i _ => 3 - (intOf i).toNat)
    case atStart => exact ⟨0, by omega, rfl, Below.refl _ _⟩
    case round =>
      obtain ⟨jj, hj, rfl, hb'⟩ := hrel
      have HB := Lib.hid hb'; clear hb'
      by_cases hj3 : jj < 3
      · have hjv : jj < vs.length := by rw [HVL.out]; exact hj3
        obtain ⟨bX, oX, hXe, hbX, hcX⟩ := HX.out.cell (k := jj) hjv
        injection hXe with hXe; injection hXe with hx1 hx2 _
        subst hx1 hx2
        rw [Nat.zero_add] at hcX
        have c1 : wr.cell? ⟨gx, jj, none⟩ = some vs[jj] := by rw [HB.out.cell (p := ⟨gx, jj, none⟩) hbX]; exact hcX
        obtain ⟨T, hT⟩ := HT.out vs[jj] (List.getElem_mem hjv)
        generalize vs[jj] = xv at *
        have HTV := Lib.hid (hT.later HB.out)
        have BR := Lib.hid (nextB B5.out HB.out)
        clear hT hcX hbX
        obtain ⟨A, c', rfl⟩ := HTV.out.shape
        obtain ⟨N, hN⟩ : ∃ N, T.length = N := ⟨_, rfl⟩
        rw [hN] at c1 HTV
        have HN := Lib.hid hN; clear hN
        have d3 : decide ((jj : Int) < 3) = true := by simp; omega
        go_wp2_with fail
        refine (new_any wr HTV.out).mono ?_
        rintro e w6 hm
        cases hlat : latB T with
        | false =>
          obtain ⟨rfl, hb⟩ := hm.no hlat
          clear hm
          have HT6 := Lib.hid (HTV.out.later hb)
          have B6 := Lib.hid (HB.out.trans (hb.mono HB.out.size)); clear hb
          have q := refLattice_any w6 HT6.out
          rw [hlat] at q
          have Q := Lib.hid q; clear q hlat
          go_wp2_with fail
          refine Q.out.mono ?_
          rintro e w7 ⟨rfl, hb⟩
          have B7 := Lib.hid (B6.out.trans (hb.mono B6.out.size)); clear hb c1 d3
          go_wp2_with fail
          go_roundw
          case rel => exact ⟨jj + 1, by omega, by go_num, B7.out⟩
          case measure => simp [intOf]; omega
        | true =>
          obtain ⟨g, rfl, hl, hb⟩ := hm.yes hlat
          clear hm
          have HLT := Lib.hid hlat
          have hN16 : 1 ≤ N ∧ N ≤ 16 := by have := lat_len hlat; have := HN.out; omega
          have HT6 := Lib.hid (HTV.out.later hb)
          have HV6 := Lib.hid hl
          have B6 := Lib.hid (HB.out.trans (hb.mono HB.out.size)); clear hb hl
          have q := refLattice_any w6 HT6.out
          rw [hlat] at q
          have Q := Lib.hid q; clear q hlat
          go_wp2_with fail
          refine Q.out.mono ?_
          rintro e w7 ⟨rfl, hb⟩
          have HT7 := Lib.hid (HT6.out.later hb)
          have HV7 := Lib.hid (HV6.out.later hb)
          have B7 := Lib.hid (B6.out.trans (hb.mono B6.out.size)); clear hb HT6 HV6 B6 Q HTV
          have q1 := len_any w7 HV7.out
          rw [HN.out] at q1
          have Q1 := Lib.hid q1; clear q1
          have Q2 := Lib.hid (bottom_m w7 HV7.out)
          have Q3 := Lib.hid (refBottom_any w7 HT7.out (by rw [HN.out]; omega))
          go_wp2_with fail
          refine Q1.out.mono ?_
          rintro e w' ⟨rfl, rfl⟩
          go_wp2_with fail
          refine Q2.out.mono ?_
          rintro e w' ⟨rfl, rfl⟩
          go_wp2_with fail
          refine Q3.out.mono ?_
          rintro e w8 ⟨rfl, hb⟩
          have HT8 := Lib.hid (HT7.out.later hb)
          have HV8 := Lib.hid (HV7.out.later hb)
          have B8 := Lib.hid (B7.out.trans (hb.mono B7.out.size)); clear hb HT7 HV7 B7 Q1 Q2 Q3
          have Q2 := Lib.hid (top_m w8 HV8.out)
          have Q3 := Lib.hid (refTop_any w8 HT8.out (by rw [HN.out]; omega))
          go_wp2_with fail
          refine Q2.out.mono ?_
          rintro e w' ⟨rfl, rfl⟩
          go_wp2_with fail
          refine Q3.out.mono ?_
          rintro e w9 ⟨rfl, hb⟩
          have HT9 := Lib.hid (HT8.out.later hb)
          have HV9 := Lib.hid (HV8.out.later hb)
          have B9 := Lib.hid (B8.out.trans (hb.mono B8.out.size)); clear hb HT8 HV8 B8 Q2 Q3 d3 c1
          obtain ⟨am, ham⟩ : ∃ am : Nat, x % N = am := ⟨_, rfl⟩
          obtain ⟨bm, hbm⟩ : ∃ bm : Nat, y % N = bm := ⟨_, rfl⟩
          have hii : (x : Int) % (N : Int) = am := by omega
          have hji : (y : Int) % (N : Int) = bm := by omega
          have hit : (x : Int).tmod (N : Int) = am := by rw [Int.tmod_eq_emod_of_nonneg (by omega)]; exact hii
          have hjt : (y : Int).tmod (N : Int) = bm := by rw [Int.tmod_eq_emod_of_nonneg (by omega)]; exact hji
          have hn0 : ((N : Int) == 0) = false := by simp; omega
          have hnz : (N : Int) ≠ 0 := by omega
          have hnz2 : ¬ N = 0 := by omega
          clear ham hbm
          go_upto_region 19 with (fail)
          obtain ⟨wd, hwd⟩ : ∃ wd : World, w9.drew = wd := ⟨_, rfl⟩
          obtain ⟨gy, hgy⟩ : ∃ gy, wd.heap.size = gy := ⟨_, rfl⟩
          obtain ⟨we, hwe⟩ : ∃ we : World, wd.alloc (.cells #[Value.int .i64 pa, .int .i64 pb, .int .i64 (am : Int), .int .i64 (bm : Int), .int .i64 (bits .and .i64 pa 7), .int .i64 (bits .and .i64 pb 15)] 34) = we := ⟨_, rfl⟩
          have hd : Below w9.heap.size w9 wd := by rw [← hwd]; exact (Below.refl _ _).drew
          have he : Below wd.heap.size wd we := by rw [← hwe]; exact below_alloc _ _
          have HTE := Lib.hid ((HT9.out.later hd).later he)
          have HVE := Lib.hid ((HV9.out.later hd).later he)
          have BE := Lib.hid (B9.out.trans ((hd.mono B9.out.size).trans (he.mono (Nat.le_trans B9.out.size hd.size))))
          have HY := Lib.hid (show Lies we we.heap.size (some ⟨gy, 0, none⟩) (i64s [pa, pb, (am : Int), (bm : Int), bits .and .i64 pa 7, bits .and .i64 pb 15]) by
            rw [← hwe, World.size_alloc, ← hgy]; exact lies_new wd _ _)
          have HWD := Lib.hid (show AtP wd we 0 w9.drew from hwd)
          have HWE := Lib.hid hwe
          have HGY := Lib.hid hgy
          clear hwd hgy hwe hd he HT9 HV9 B9
          refine Reg.wp_facts_sl [114, 115, 116, 117, 118, 119, 120, 121, 122, 123, 124, 125, 126, 127, 128, 129, 130, 131, 132, 133, 134, 135] rfl [19] [[], [], [(0, 114), (1, 115)], [], [(3, 117)], [], [(5, 119)], [(4, 118), (6, 120)], [], [(8, 122)], [], [(10, 124)], [(9, 123), (11, 125)], [(7, 121), (12, 126)], [], [(14, 128)], [], [(16, 130)], [(15, 129), (17, 131)], [(2, 116), (13, 127), (18, 132)], [(19, 133)], []] [(19, 133), (20, 134), (21, 135)] (Reg.Known (lt19Val A N c' gy pa pb x y am bm) (fun _ _ _ => True) []) (AtP wd we) (by kernel_rfl) (by kernel_rfl) ?start ?steps ?finish
          case start => exact HWD.out
          case steps =>
            refine Reg.Steps.zip ?_ ?_
            · refine Reg.step_go rfl ?_
              intro a wi ki hf hd hS hc K hK
              have f5 : a.tmps.getD 5 undef = .int .i64 pa := hf.same 5 rfl
              clear hf hd hc
              have hK0 := Lib.hid hK; clear hK
              have hS0 := Lib.hid hS; clear hS
              go_simp
              exact hK0.out _ _ (Reg.Known.mk_val rfl rfl) (fun _ _ h => h) hS0.out
            refine Reg.Steps.zip ?_ ?_
            · refine Reg.step_go rfl ?_
              intro a wi ki hf hd hS hc K hK
              have f6 : a.tmps.getD 6 undef = .int .i64 pb := hf.same 6 rfl
              clear hf hd hc
              have hK0 := Lib.hid hK; clear hK
              have hS0 := Lib.hid hS; clear hS
              go_simp
              exact hK0.out _ _ (Reg.Known.mk_val rfl rfl) (fun _ _ h => h) hS0.out
            refine Reg.Steps.zip ?_ ?_
            · refine Reg.step_go rfl ?_
              intro a wi ki hf hd hS hc K hK
              have e114 : a.tmps.getD 114 undef = .int .i64 pa := hd.1.plain rfl
              have e115 : a.tmps.getD 115 undef = .int .i64 pb := hd.2.1.plain rfl
              clear hf hd hc
              have k114 : a.tmps[114]?.getD undef = .int .i64 pa := by rw [← e114]; simp
              have k115 : a.tmps[115]?.getD undef = .int .i64 pb := by rw [← e115]; simp
              have hK0 := Lib.hid hK; clear hK
              have hS0 := Lib.hid hS; clear hS
              go_simp
              exact hK0.out _ _ (Reg.Known.mk_val rfl rfl) (fun _ _ h => h) hS0.out
            refine Reg.Steps.zip ?_ ?_
            · refine Reg.step_go rfl ?_
              intro a wi ki hf hd hS hc K hK
              have f2 : a.tmps.getD 2 undef = .int .u8 (x : Int) := hf.same 2 rfl
              clear hf hd hc
              have hK0 := Lib.hid hK; clear hK
              have hS0 := Lib.hid hS; clear hS
              go_simp
              exact hK0.out _ _ (Reg.Known.mk_val rfl rfl) (fun _ _ h => h) hS0.out
            refine Reg.Steps.zip ?_ ?_
            · refine Reg.step_go rfl ?_
              intro a wi ki hf hd hS hc K hK
              have e117 : a.tmps.getD 117 undef = .int .u8 (x : Int) := hd.1.plain rfl
              clear hf hd hc
              have fw : IntKind.i64.wrap (x : Int) = x := IntWalk.i64_in _ (by omega)
              have hK0 := Lib.hid hK; clear hK
              have hS0 := Lib.hid hS; clear hS
              go_simp
              exact hK0.out _ _ (Reg.Known.mk_val rfl rfl) (fun _ _ h => h) hS0.out
            refine Reg.Steps.zip ?_ ?_
            · refine Reg.step_go rfl ?_
              intro a wi ki hf hd hS hc K hK
              have f20 : a.tmps.getD 20 undef = .slice A N c' := hf.same 20 rfl
              clear hf hd hc
              have hK0 := Lib.hid hK; clear hK
              have hS0 := Lib.hid hS; clear hS
              go_simp
              exact hK0.out _ _ (Reg.Known.mk_val rfl rfl) (fun _ _ h => h) hS0.out
            refine Reg.Steps.zip ?_ ?_
            · refine Reg.step_go rfl ?_
              intro a wi ki hf hd hS hc K hK
              have e119 : a.tmps.getD 119 undef = .slice A N c' := hd.1.plain rfl
              clear hf hd hc
              have hK0 := Lib.hid hK; clear hK
              have hS0 := Lib.hid hS; clear hS
              go_simp
              exact hK0.out _ _ (Reg.Known.mk_val rfl rfl) (fun _ _ h => h) hS0.out
            refine Reg.Steps.zip ?_ ?_
            · refine Reg.step_go rfl ?_
              intro a wi ki hf hd hS hc K hK
              have e118 : a.tmps.getD 118 undef = .int .i64 (x : Int) := hd.1.plain rfl
              have e120 : a.tmps.getD 120 undef = .int .i64 (N : Int) := hd.2.1.plain rfl
              clear hf hd hc
              have hK0 := Lib.hid hK; clear hK
              have hS0 := Lib.hid hS; clear hS
              go_simp
              exact hK0.out _ _ (Reg.Known.mk_val rfl rfl) (fun _ _ h => h) hS0.out
            refine Reg.Steps.zip ?_ ?_
            · refine Reg.step_go rfl ?_
              intro a wi ki hf hd hS hc K hK
              have f3 : a.tmps.getD 3 undef = .int .u8 (y : Int) := hf.same 3 rfl
              clear hf hd hc
              have hK0 := Lib.hid hK; clear hK
              have hS0 := Lib.hid hS; clear hS
              go_simp
              exact hK0.out _ _ (Reg.Known.mk_val rfl rfl) (fun _ _ h => h) hS0.out
            refine Reg.Steps.zip ?_ ?_
            · refine Reg.step_go rfl ?_
              intro a wi ki hf hd hS hc K hK
              have e122 : a.tmps.getD 122 undef = .int .u8 (y : Int) := hd.1.plain rfl
              clear hf hd hc
              have fw : IntKind.i64.wrap (y : Int) = y := IntWalk.i64_in _ (by omega)
              have hK0 := Lib.hid hK; clear hK
              have hS0 := Lib.hid hS; clear hS
              go_simp
              exact hK0.out _ _ (Reg.Known.mk_val rfl rfl) (fun _ _ h => h) hS0.out
            refine Reg.Steps.zip ?_ ?_
            · refine Reg.step_go rfl ?_
              intro a wi ki hf hd hS hc K hK
              have f20 : a.tmps.getD 20 undef = .slice A N c' := hf.same 20 rfl
              clear hf hd hc
              have hK0 := Lib.hid hK; clear hK
              have hS0 := Lib.hid hS; clear hS
              go_simp
              exact hK0.out _ _ (Reg.Known.mk_val rfl rfl) (fun _ _ h => h) hS0.out
            refine Reg.Steps.zip ?_ ?_
            · refine Reg.step_go rfl ?_
              intro a wi ki hf hd hS hc K hK
              have e124 : a.tmps.getD 124 undef = .slice A N c' := hd.1.plain rfl
              clear hf hd hc
              have hK0 := Lib.hid hK; clear hK
              have hS0 := Lib.hid hS; clear hS
              go_simp
              exact hK0.out _ _ (Reg.Known.mk_val rfl rfl) (fun _ _ h => h) hS0.out
            refine Reg.Steps.zip ?_ ?_
            · refine Reg.step_go rfl ?_
              intro a wi ki hf hd hS hc K hK
              have e123 : a.tmps.getD 123 undef = .int .i64 (y : Int) := hd.1.plain rfl
              have e125 : a.tmps.getD 125 undef = .int .i64 (N : Int) := hd.2.1.plain rfl
              clear hf hd hc
              have hK0 := Lib.hid hK; clear hK
              have hS0 := Lib.hid hS; clear hS
              go_simp
              exact hK0.out _ _ (Reg.Known.mk_val rfl rfl) (fun _ _ h => h) hS0.out
            refine Reg.Steps.zip ?_ ?_
            · refine Reg.step_go rfl ?_
              intro a wi ki hf hd hS hc K hK
              have e121 : a.tmps.getD 121 undef = .int .i64 (am : Int) := hd.1.plain rfl
              have e126 : a.tmps.getD 126 undef = .int .i64 (bm : Int) := hd.2.1.plain rfl
              clear hf hd hc
              have k121 : a.tmps[121]?.getD undef = .int .i64 (am : Int) := by rw [← e121]; simp
              have k126 : a.tmps[126]?.getD undef = .int .i64 (bm : Int) := by rw [← e126]; simp
              have hK0 := Lib.hid hK; clear hK
              have hS0 := Lib.hid hS; clear hS
              go_simp
              exact hK0.out _ _ (Reg.Known.mk_val rfl rfl) (fun _ _ h => h) hS0.out
            refine Reg.Steps.zip ?_ ?_
            · refine Reg.step_go rfl ?_
              intro a wi ki hf hd hS hc K hK
              have f5 : a.tmps.getD 5 undef = .int .i64 pa := hf.same 5 rfl
              clear hf hd hc
              have hK0 := Lib.hid hK; clear hK
              have hS0 := Lib.hid hS; clear hS
              go_simp
              exact hK0.out _ _ (Reg.Known.mk_val rfl rfl) (fun _ _ h => h) hS0.out
            refine Reg.Steps.zip ?_ ?_
            · refine Reg.step_go rfl ?_
              intro a wi ki hf hd hS hc K hK
              have e128 : a.tmps.getD 128 undef = .int .i64 pa := hd.1.plain rfl
              clear hf hd hc
              have hK0 := Lib.hid hK; clear hK
              have hS0 := Lib.hid hS; clear hS
              go_simp
              exact hK0.out _ _ (Reg.Known.mk_val rfl rfl) (fun _ _ h => h) hS0.out
            refine Reg.Steps.zip ?_ ?_
            · refine Reg.step_go rfl ?_
              intro a wi ki hf hd hS hc K hK
              have f6 : a.tmps.getD 6 undef = .int .i64 pb := hf.same 6 rfl
              clear hf hd hc
              have hK0 := Lib.hid hK; clear hK
              have hS0 := Lib.hid hS; clear hS
              go_simp
              exact hK0.out _ _ (Reg.Known.mk_val rfl rfl) (fun _ _ h => h) hS0.out
            refine Reg.Steps.zip ?_ ?_
            · refine Reg.step_go rfl ?_
              intro a wi ki hf hd hS hc K hK
              have e130 : a.tmps.getD 130 undef = .int .i64 pb := hd.1.plain rfl
              clear hf hd hc
              have hK0 := Lib.hid hK; clear hK
              have hS0 := Lib.hid hS; clear hS
              go_simp
              exact hK0.out _ _ (Reg.Known.mk_val rfl rfl) (fun _ _ h => h) hS0.out
            refine Reg.Steps.zip ?_ ?_
            · refine Reg.step_go rfl ?_
              intro a wi ki hf hd hS hc K hK
              have e129 : a.tmps.getD 129 undef = .int .i64 (bits .and .i64 pa 7) := hd.1.plain rfl
              have e131 : a.tmps.getD 131 undef = .int .i64 (bits .and .i64 pb 15) := hd.2.1.plain rfl
              clear hf hd hc
              have k129 : a.tmps[129]?.getD undef = .int .i64 (bits .and .i64 pa 7) := by rw [← e129]; simp
              have k131 : a.tmps[131]?.getD undef = .int .i64 (bits .and .i64 pb 15) := by rw [← e131]; simp
              have hK0 := Lib.hid hK; clear hK
              have hS0 := Lib.hid hS; clear hS
              go_simp
              exact hK0.out _ _ (Reg.Known.mk_val rfl rfl) (fun _ _ h => h) hS0.out
            refine Reg.Steps.zip ?_ ?_
            · refine Reg.step_go rfl ?_
              intro a wi ki hf hd hS hc K hK
              have e116 : a.tmps.getD 116 undef = .agg #[.int .i64 pa, .int .i64 pb] := hd.1.plain rfl
              have e127 : a.tmps.getD 127 undef = .agg #[.int .i64 (am : Int), .int .i64 (bm : Int)] := hd.2.1.plain rfl
              have e132 : a.tmps.getD 132 undef = .agg #[.int .i64 (bits .and .i64 pa 7), .int .i64 (bits .and .i64 pb 15)] := hd.2.2.1.plain rfl
              clear hf hd
              have k116 : a.tmps[116]?.getD undef = .agg #[.int .i64 pa, .int .i64 pb] := by rw [← e116]; simp
              have k127 : a.tmps[127]?.getD undef = .agg #[.int .i64 (am : Int), .int .i64 (bm : Int)] := by rw [← e127]; simp
              have k132 : a.tmps[132]?.getD undef = .agg #[.int .i64 (bits .and .i64 pa 7), .int .i64 (bits .and .i64 pb 15)] := by rw [← e132]; simp
              obtain rfl := hc 0 rfl
              have hk0 : wi = wd := hS
              subst hk0
              have hK0 := Lib.hid hK; clear hK hc hS
              go_simp
              exact hK0.out _ _ (Reg.Known.mk_val rfl (by rw [HGY.out]; rfl)) (fun _ _ h => ⟨h.plain, fun h2 => by cases h2⟩) (show AtP wi we 1 _ from HWE.out)
            refine Reg.Steps.zip ?_ ?_
            · refine Reg.step_go rfl ?_
              intro a wi ki hf hd hS hc K hK
              have e133 : a.tmps.getD 133 undef = .slice (some ⟨gy, 0, none⟩) 3 3 := hd.1.plain rfl
              clear hf hd hc
              have hK0 := Lib.hid hK; clear hK
              have hS0 := Lib.hid hS; clear hS
              go_simp
              exact hK0.out _ _ (Reg.Known.mk_val rfl rfl) (fun _ _ h => h) hS0.out
            refine Reg.Steps.zip ?_ ?_
            · refine Reg.step_go rfl ?_
              intro a wi ki hf hd hS hc K hK
              clear hf hd hc
              have hK0 := Lib.hid hK; clear hK
              have hS0 := Lib.hid hS; clear hS
              go_simp
              exact hK0.out _ _ (Reg.Known.mk_val rfl rfl) (fun _ _ h => h) hS0.out
            exact Reg.Steps.nil
          case finish =>
            intro a8 wF hf hd hS
            obtain ⟨u, hu⟩ : ∃ u : Nat → Value, u = fun s => a8.tmps.getD s undef := ⟨_, rfl⟩
            have e133 : u 133 = .slice (some ⟨gy, 0, none⟩) 3 3 := by rw [hu]; exact hd.1.plain rfl
            have e134 : u 134 = .int .i64 3 := by rw [hu]; exact hd.2.1.plain rfl
            have e135 : u 135 = .int .i64 0 := by rw [hu]; exact hd.2.2.1.plain rfl
            obtain rfl : wF = we := hS
            rw [hf.eq, ← hu]
            clear hf hu hd
            simp [Reg.filled, e133, e134, e135]
            clear e133 e134 e135
            obtain ⟨ys, hys⟩ : ∃ ys, ys = [pa, pb, (am : Int), (bm : Int), bits .and .i64 pa 7, bits .and .i64 pb 15] := ⟨_, rfl⟩
            rw [← hys] at HY
            have HYL := Lib.hid (show ys.length = 6 by rw [hys]; rfl)
            obtain ⟨lo, hvlo⟩ : ∃ lo, LatV wF lo wF.heap.size g T := ⟨_, HVE.out⟩
            have HVL := Lib.hid hvlo; clear hvlo
            clear hys HWD HWE HGY hii hji hit hjt hn0 hnz hnz2 HVE
            go_wp2_with fail
            go_loopw [135] (fun i wr => ∃ q : Nat, q ≤ 3 ∧ i = .int .i64 q ∧ Below wF.heap.size wF wr) (fun i _ => 3 - (intOf i).toNat)
            case atStart => exact ⟨0, by omega, rfl, Below.refl _ _⟩
            case round =>
              obtain ⟨q, hq, rfl, hb'⟩ := hrel
              have HBQ := Lib.hid hb'; clear hb'
              by_cases hq3 : q < 3
              · have hq1 : q * 2 < ys.length := by rw [HYL.out]; omega
                have hq2 : q * 2 + 1 < ys.length := by rw [HYL.out]; omega
                obtain ⟨bY, oY, hYe, hbY, hcY⟩ := lie_int HY.out hq1
                injection hYe with hYe; injection hYe with hy1 hy2 _
                subst hy1 hy2
                obtain ⟨bY, oY, hYe, _, hcY2⟩ := lie_int HY.out hq2
                injection hYe with hYe; injection hYe with hy1 hy2 _
                subst hy1 hy2
                rw [Nat.zero_add] at hcY hcY2
                have k1 : wr.cell? ⟨gy, q * 2, none⟩ = some (.int .i64 ys[q * 2]) := by rw [HBQ.out.cell (p := ⟨gy, q * 2, none⟩) hbY]; exact hcY
                have k2 : wr.cell? ⟨gy, q * 2 + 1, none⟩ = some (.int .i64 ys[q * 2 + 1]) := by rw [HBQ.out.cell (p := ⟨gy, q * 2 + 1, none⟩) hbY]; exact hcY2
                generalize ys[q * 2] = y0 at *
                generalize ys[q * 2 + 1] = y1 at *
                clear hcY hcY2 hbY hq1 hq2
                have d5 : decide ((q : Int) < 3) = true := by simp; omega
                go_upto_region 22 with (fail)
                obtain ⟨w10, hw10⟩ : ∃ w10 : World, w10 = wr.alloc (.cells #[Value.int .i64 y0, Value.int .i64 y1] 34) := ⟨_, rfl⟩
                have b7 : Below wr.heap.size wr w10 := by rw [hw10]; exact below_alloc _ _
                have hs7 : w10.heap.size = wr.heap.size + 1 := by rw [hw10, World.size_alloc]
                have hh7 : w10.heap[wr.heap.size]? = some (.cells #[Value.int .i64 y0, Value.int .i64 y1] 34 (0, 0)) := by rw [hw10]; exact heap_alloc_new wr _
                obtain ⟨gb, hgb⟩ : ∃ gb, wr.heap.size = gb := ⟨_, rfl⟩
                rw [hgb] at hs7 hh7
                rw [← hw10, hgb]
                obtain ⟨bl, hbl⟩ : ∃ bl, nats (belowT T y0) = bl := ⟨_, rfl⟩
                obtain ⟨fl, hfl⟩ : ∃ fl, flowsT T y0 y1 = fl := ⟨_, rfl⟩
                obtain ⟨jn, hjn⟩ : ∃ jn, joinZ T y0 y1 = jn := ⟨_, rfl⟩
                obtain ⟨mt, hmt⟩ : ∃ mt, meetZ T y0 y1 = mt := ⟨_, rfl⟩
                have HM := Lib.hid (show T.length ≤ 1000 by rw [HN.out]; omega)
                have HBM := Lib.hid (show bl.length ≤ 1000 by rw [← hbl]; exact Nat.le_trans (belowT_len T y0) HM.out)
                have HHO := Lib.hid (show Hold wF (.slice A N c') T lo g gb y0 y1 0 w10 from ⟨(HTE.out.later HBQ.out).later b7, (HVL.out.later HBQ.out).later b7, cell_blk hh7 0, cell_blk hh7 1, by omega, nextB HBQ.out b7⟩)
                clear hw10 b7 hs7 hh7 hgb k1 k2 HBQ
                have HBL := Lib.hid hbl; clear hbl
                have HFL := Lib.hid hfl; clear hfl
                have HJN := Lib.hid hjn; clear hjn
                have HMT := Lib.hid hmt; clear hmt
                refine Reg.wp_facts_sl [139, 140, 141, 142, 143, 144, 145, 146, 147, 148, 149, 150, 151, 152, 153, 154, 155, 156, 157, 158, 159, 160, 161, 162, 163, 164, 165, 166, 167, 168, 169, 170, 171, 172, 173, 174, 175, 176, 177, 178, 179, 180, 181, 182, 183, 184, 185, 186, 187, 188, 189, 190, 191, 192, 193] rfl [] [[], [], [(1, 140)], [], [(3, 142)], [(0, 139), (2, 141), (4, 143)], [], [], [(7, 146)], [], [(9, 148)], [(6, 145), (8, 147), (10, 149)], [(5, 144), (11, 150)], [(12, 151)], [], [], [(15, 154)], [], [(17, 156)], [(14, 153), (16, 155), (18, 157)], [], [], [(21, 160)], [], [(23, 162)], [(20, 159), (22, 161), (24, 163)], [(19, 158), (25, 164)], [(13, 152), (26, 165)], [(27, 166)], [], [], [(30, 169)], [], [(32, 171)], [(29, 168), (31, 170), (33, 172)], [], [], [(36, 175)], [], [(38, 177)], [(35, 174), (37, 176), (39, 178)], [(34, 173), (40, 179)], [(28, 167), (41, 180)], [(42, 181)], [], [], [(45, 184)], [(44, 183), (46, 185)], [], [], [(49, 188)], [(48, 187), (50, 189)], [(47, 186), (51, 190)], [(52, 191)], [(43, 182), (53, 192)]] [(54, 193)] (Reg.Known (lt22Val A N c' g gb y0 y1 jn mt fl) (fun _ v w => IntsV w w.heap.size v bl) [47, 51]) (Hold wF (.slice A N c') T lo g gb y0 y1) (by kernel_rfl) (by kernel_rfl) ?start ?steps ?finish
                case start => exact HHO.out.drew
                case steps =>
                  refine Reg.Steps.zip ?_ ?_
                  · refine Reg.step_go rfl ?_
                    intro a wi ki hf hd hS hc K hK
                    have f21 : a.tmps.getD 21 undef = .pointer (some ⟨g, 0, none⟩) := hf.same 21 rfl
                    clear hf hd hc
                    have hK0 := Lib.hid hK; clear hK
                    have hS0 := Lib.hid hS; clear hS
                    go_simp
                    exact hK0.out _ _ (Reg.Known.mk_val rfl rfl) (fun _ _ h => h) hS0.out
                  refine Reg.Steps.zip ?_ ?_
                  · refine Reg.step_go rfl ?_
                    intro a wi ki hf hd hS hc K hK
                    have f24 : a.tmps.getD 24 undef = .pointer (some ⟨gb, 0, none⟩) := hf.same 24 rfl
                    clear hf hd hc
                    have hK0 := Lib.hid hK; clear hK
                    have hS0 := Lib.hid hS; clear hS
                    go_simp
                    exact hK0.out _ _ (Reg.Known.mk_val rfl rfl) (fun _ _ h => h) hS0.out
                  refine Reg.Steps.zip ?_ ?_
                  · refine Reg.step_go rfl ?_
                    intro a wi ki hf hd hS hc K hK
                    have e140 : a.tmps.getD 140 undef = .pointer (some ⟨gb, 0, none⟩) := hd.1.plain rfl
                    clear hf hd hc
                    have cc := hS.c0
                    have hK0 := Lib.hid hK; clear hK
                    have hS0 := Lib.hid hS; clear hS
                    go_simp
                    exact hK0.out _ _ (Reg.Known.mk_val rfl rfl) (fun _ _ h => h) hS0.out
                  refine Reg.Steps.zip ?_ ?_
                  · refine Reg.step_go rfl ?_
                    intro a wi ki hf hd hS hc K hK
                    have f24 : a.tmps.getD 24 undef = .pointer (some ⟨gb, 0, none⟩) := hf.same 24 rfl
                    clear hf hd hc
                    have hK0 := Lib.hid hK; clear hK
                    have hS0 := Lib.hid hS; clear hS
                    go_simp
                    exact hK0.out _ _ (Reg.Known.mk_val rfl rfl) (fun _ _ h => h) hS0.out
                  refine Reg.Steps.zip ?_ ?_
                  · refine Reg.step_go rfl ?_
                    intro a wi ki hf hd hS hc K hK
                    have e142 : a.tmps.getD 142 undef = .pointer (some ⟨gb, 1, none⟩) := hd.1.plain rfl
                    clear hf hd hc
                    have cc := hS.c1
                    have hK0 := Lib.hid hK; clear hK
                    have hS0 := Lib.hid hS; clear hS
                    go_simp
                    exact hK0.out _ _ (Reg.Known.mk_val rfl rfl) (fun _ _ h => h) hS0.out
                  refine Reg.Steps.zip ?_ ?_
                  · refine Reg.step_go rfl ?_
                    intro a wi ki hf hd hS hc K hK
                    have e139 : a.tmps.getD 139 undef = .pointer (some ⟨g, 0, none⟩) := hd.1.plain rfl
                    have e141 : a.tmps.getD 141 undef = .int .i64 y0 := hd.2.1.plain rfl
                    have e143 : a.tmps.getD 143 undef = .int .i64 y1 := hd.2.2.1.plain rfl
                    clear hf hd
                    have HS := Lib.hid hS; clear hS
                    have hK0 := Lib.hid hK; clear hK hc
                    go_simp
                    refine (flows_m y0 y1 wi HS.out.lat).mono ?_
                    rw [HFL.out]
                    rintro e wA ⟨rfl, rfl⟩
                    exact hK0.out _ _ (Reg.Known.mk_val rfl rfl) (fun _ _ h => h) HS.out
                  refine Reg.Steps.zip ?_ ?_
                  · refine Reg.step_go rfl ?_
                    intro a wi ki hf hd hS hc K hK
                    have f20 : a.tmps.getD 20 undef = .slice A N c' := hf.same 20 rfl
                    clear hf hd hc
                    have hK0 := Lib.hid hK; clear hK
                    have hS0 := Lib.hid hS; clear hS
                    go_simp
                    exact hK0.out _ _ (Reg.Known.mk_val rfl rfl) (fun _ _ h => h) hS0.out
                  refine Reg.Steps.zip ?_ ?_
                  · refine Reg.step_go rfl ?_
                    intro a wi ki hf hd hS hc K hK
                    have f24 : a.tmps.getD 24 undef = .pointer (some ⟨gb, 0, none⟩) := hf.same 24 rfl
                    clear hf hd hc
                    have hK0 := Lib.hid hK; clear hK
                    have hS0 := Lib.hid hS; clear hS
                    go_simp
                    exact hK0.out _ _ (Reg.Known.mk_val rfl rfl) (fun _ _ h => h) hS0.out
                  refine Reg.Steps.zip ?_ ?_
                  · refine Reg.step_go rfl ?_
                    intro a wi ki hf hd hS hc K hK
                    have e146 : a.tmps.getD 146 undef = .pointer (some ⟨gb, 0, none⟩) := hd.1.plain rfl
                    clear hf hd hc
                    have cc := hS.c0
                    have hK0 := Lib.hid hK; clear hK
                    have hS0 := Lib.hid hS; clear hS
                    go_simp
                    exact hK0.out _ _ (Reg.Known.mk_val rfl rfl) (fun _ _ h => h) hS0.out
                  refine Reg.Steps.zip ?_ ?_
                  · refine Reg.step_go rfl ?_
                    intro a wi ki hf hd hS hc K hK
                    have f24 : a.tmps.getD 24 undef = .pointer (some ⟨gb, 0, none⟩) := hf.same 24 rfl
                    clear hf hd hc
                    have hK0 := Lib.hid hK; clear hK
                    have hS0 := Lib.hid hS; clear hS
                    go_simp
                    exact hK0.out _ _ (Reg.Known.mk_val rfl rfl) (fun _ _ h => h) hS0.out
                  refine Reg.Steps.zip ?_ ?_
                  · refine Reg.step_go rfl ?_
                    intro a wi ki hf hd hS hc K hK
                    have e148 : a.tmps.getD 148 undef = .pointer (some ⟨gb, 1, none⟩) := hd.1.plain rfl
                    clear hf hd hc
                    have cc := hS.c1
                    have hK0 := Lib.hid hK; clear hK
                    have hS0 := Lib.hid hS; clear hS
                    go_simp
                    exact hK0.out _ _ (Reg.Known.mk_val rfl rfl) (fun _ _ h => h) hS0.out
                  refine Reg.Steps.zip ?_ ?_
                  · refine Reg.step_go rfl ?_
                    intro a wi ki hf hd hS hc K hK
                    have e145 : a.tmps.getD 145 undef = .slice A N c' := hd.1.plain rfl
                    have e147 : a.tmps.getD 147 undef = .int .i64 y0 := hd.2.1.plain rfl
                    have e149 : a.tmps.getD 149 undef = .int .i64 y1 := hd.2.2.1.plain rfl
                    clear hf hd
                    have HS := Lib.hid hS; clear hS
                    have hK0 := Lib.hid hK; clear hK hc
                    go_simp
                    refine (refFlows_any y0 y1 wi HS.out.tab).mono ?_
                    rw [HFL.out]
                    rintro e wA ⟨rfl, rfl⟩
                    exact hK0.out _ _ (Reg.Known.mk_val rfl rfl) (fun _ _ h => h) HS.out
                  refine Reg.Steps.zip ?_ ?_
                  · refine Reg.step_go rfl ?_
                    intro a wi ki hf hd hS hc K hK
                    have e144 : a.tmps.getD 144 undef = .bool fl := hd.1.plain rfl
                    have e150 : a.tmps.getD 150 undef = .bool fl := hd.2.1.plain rfl
                    clear hf hd hc
                    have ef : (fl != fl) = false := by cases fl <;> rfl
                    have hK0 := Lib.hid hK; clear hK
                    have hS0 := Lib.hid hS; clear hS
                    go_simp
                    exact hK0.out _ _ (Reg.Known.mk_val rfl rfl) (fun _ _ h => h) hS0.out
                  refine Reg.Steps.zip ?_ ?_
                  · refine Reg.step_go rfl ?_
                    intro a wi ki hf hd hS hc K hK
                    have e151 : a.tmps.getD 151 undef = .bool false := hd.1.plain rfl
                    clear hf hd hc
                    have hK0 := Lib.hid hK; clear hK
                    have hS0 := Lib.hid hS; clear hS
                    go_simp
                    exact hK0.out _ _ (Reg.Known.mk_val rfl rfl) (fun _ _ h => h) hS0.out
                  refine Reg.Steps.zip ?_ ?_
                  · refine Reg.step_on rfl (fun u w h => h.plain rfl) ?_
                    intro a wi ki hf hd hS hc K hK
                    have f21 : a.tmps.getD 21 undef = .pointer (some ⟨g, 0, none⟩) := hf.same 21 rfl
                    clear hf hd hc
                    have hK0 := Lib.hid hK; clear hK
                    have hS0 := Lib.hid hS; clear hS
                    go_simp
                    exact hK0.out _ _ (Reg.Known.mk_val rfl rfl) (fun _ _ h => h) hS0.out
                  refine Reg.Steps.zip ?_ ?_
                  · refine Reg.step_on rfl (fun u w h => h.plain rfl) ?_
                    intro a wi ki hf hd hS hc K hK
                    have f24 : a.tmps.getD 24 undef = .pointer (some ⟨gb, 0, none⟩) := hf.same 24 rfl
                    clear hf hd hc
                    have hK0 := Lib.hid hK; clear hK
                    have hS0 := Lib.hid hS; clear hS
                    go_simp
                    exact hK0.out _ _ (Reg.Known.mk_val rfl rfl) (fun _ _ h => h) hS0.out
                  refine Reg.Steps.zip ?_ ?_
                  · refine Reg.step_on rfl (fun u w h => h.plain rfl) ?_
                    intro a wi ki hf hd hS hc K hK
                    have e154 : a.tmps.getD 154 undef = .pointer (some ⟨gb, 0, none⟩) := hd.1.plain rfl
                    clear hf hd hc
                    have cc := hS.c0
                    have hK0 := Lib.hid hK; clear hK
                    have hS0 := Lib.hid hS; clear hS
                    go_simp
                    exact hK0.out _ _ (Reg.Known.mk_val rfl rfl) (fun _ _ h => h) hS0.out
                  refine Reg.Steps.zip ?_ ?_
                  · refine Reg.step_on rfl (fun u w h => h.plain rfl) ?_
                    intro a wi ki hf hd hS hc K hK
                    have f24 : a.tmps.getD 24 undef = .pointer (some ⟨gb, 0, none⟩) := hf.same 24 rfl
                    clear hf hd hc
                    have hK0 := Lib.hid hK; clear hK
                    have hS0 := Lib.hid hS; clear hS
                    go_simp
                    exact hK0.out _ _ (Reg.Known.mk_val rfl rfl) (fun _ _ h => h) hS0.out
                  refine Reg.Steps.zip ?_ ?_
                  · refine Reg.step_on rfl (fun u w h => h.plain rfl) ?_
                    intro a wi ki hf hd hS hc K hK
                    have e156 : a.tmps.getD 156 undef = .pointer (some ⟨gb, 1, none⟩) := hd.1.plain rfl
                    clear hf hd hc
                    have cc := hS.c1
                    have hK0 := Lib.hid hK; clear hK
                    have hS0 := Lib.hid hS; clear hS
                    go_simp
                    exact hK0.out _ _ (Reg.Known.mk_val rfl rfl) (fun _ _ h => h) hS0.out
                  refine Reg.Steps.zip ?_ ?_
                  · refine Reg.step_on rfl (fun u w h => h.plain rfl) ?_
                    intro a wi ki hf hd hS hc K hK
                    have e153 : a.tmps.getD 153 undef = .pointer (some ⟨g, 0, none⟩) := hd.1.plain rfl
                    have e155 : a.tmps.getD 155 undef = .int .i64 y0 := hd.2.1.plain rfl
                    have e157 : a.tmps.getD 157 undef = .int .i64 y1 := hd.2.2.1.plain rfl
                    clear hf hd
                    have HS := Lib.hid hS; clear hS
                    have hK0 := Lib.hid hK; clear hK hc
                    go_simp
                    refine (join_m y0 y1 wi HS.out.lat).mono ?_
                    rw [HJN.out]
                    rintro e wA ⟨rfl, rfl⟩
                    exact hK0.out _ _ (Reg.Known.mk_val rfl rfl) (fun _ _ h => h) HS.out
                  refine Reg.Steps.zip ?_ ?_
                  · refine Reg.step_on rfl (fun u w h => h.plain rfl) ?_
                    intro a wi ki hf hd hS hc K hK
                    have f20 : a.tmps.getD 20 undef = .slice A N c' := hf.same 20 rfl
                    clear hf hd hc
                    have hK0 := Lib.hid hK; clear hK
                    have hS0 := Lib.hid hS; clear hS
                    go_simp
                    exact hK0.out _ _ (Reg.Known.mk_val rfl rfl) (fun _ _ h => h) hS0.out
                  refine Reg.Steps.zip ?_ ?_
                  · refine Reg.step_on rfl (fun u w h => h.plain rfl) ?_
                    intro a wi ki hf hd hS hc K hK
                    have f24 : a.tmps.getD 24 undef = .pointer (some ⟨gb, 0, none⟩) := hf.same 24 rfl
                    clear hf hd hc
                    have hK0 := Lib.hid hK; clear hK
                    have hS0 := Lib.hid hS; clear hS
                    go_simp
                    exact hK0.out _ _ (Reg.Known.mk_val rfl rfl) (fun _ _ h => h) hS0.out
                  refine Reg.Steps.zip ?_ ?_
                  · refine Reg.step_on rfl (fun u w h => h.plain rfl) ?_
                    intro a wi ki hf hd hS hc K hK
                    have e160 : a.tmps.getD 160 undef = .pointer (some ⟨gb, 0, none⟩) := hd.1.plain rfl
                    clear hf hd hc
                    have cc := hS.c0
                    have hK0 := Lib.hid hK; clear hK
                    have hS0 := Lib.hid hS; clear hS
                    go_simp
                    exact hK0.out _ _ (Reg.Known.mk_val rfl rfl) (fun _ _ h => h) hS0.out
                  refine Reg.Steps.zip ?_ ?_
                  · refine Reg.step_on rfl (fun u w h => h.plain rfl) ?_
                    intro a wi ki hf hd hS hc K hK
                    have f24 : a.tmps.getD 24 undef = .pointer (some ⟨gb, 0, none⟩) := hf.same 24 rfl
                    clear hf hd hc
                    have hK0 := Lib.hid hK; clear hK
                    have hS0 := Lib.hid hS; clear hS
                    go_simp
                    exact hK0.out _ _ (Reg.Known.mk_val rfl rfl) (fun _ _ h => h) hS0.out
                  refine Reg.Steps.zip ?_ ?_
                  · refine Reg.step_on rfl (fun u w h => h.plain rfl) ?_
                    intro a wi ki hf hd hS hc K hK
                    have e162 : a.tmps.getD 162 undef = .pointer (some ⟨gb, 1, none⟩) := hd.1.plain rfl
                    clear hf hd hc
                    have cc := hS.c1
                    have hK0 := Lib.hid hK; clear hK
                    have hS0 := Lib.hid hS; clear hS
                    go_simp
                    exact hK0.out _ _ (Reg.Known.mk_val rfl rfl) (fun _ _ h => h) hS0.out
                  refine Reg.Steps.zip ?_ ?_
                  · refine Reg.step_on rfl (fun u w h => h.plain rfl) ?_
                    intro a wi ki hf hd hS hc K hK
                    have e159 : a.tmps.getD 159 undef = .slice A N c' := hd.1.plain rfl
                    have e161 : a.tmps.getD 161 undef = .int .i64 y0 := hd.2.1.plain rfl
                    have e163 : a.tmps.getD 163 undef = .int .i64 y1 := hd.2.2.1.plain rfl
                    clear hf hd
                    have HS := Lib.hid hS; clear hS
                    have hK0 := Lib.hid hK; clear hK hc
                    go_simp
                    refine (refJoin_any y0 y1 wi HS.out.tab HM.out).mono ?_
                    rw [HJN.out]
                    rintro e wA ⟨rfl, hbA⟩
                    exact hK0.out _ _ (Reg.Known.mk_val rfl rfl) (fun i u h => known_list h hbA) (HS.out.step hbA)
                  refine Reg.Steps.zip ?_ ?_
                  · refine Reg.step_on rfl (fun u w h => h.plain rfl) ?_
                    intro a wi ki hf hd hS hc K hK
                    have e158 : a.tmps.getD 158 undef = .int .i64 jn := hd.1.plain rfl
                    have e164 : a.tmps.getD 164 undef = .int .i64 jn := hd.2.1.plain rfl
                    clear hf hd hc
                    have hK0 := Lib.hid hK; clear hK
                    have hS0 := Lib.hid hS; clear hS
                    go_simp
                    exact hK0.out _ _ (Reg.Known.mk_val rfl rfl) (fun _ _ h => h) hS0.out
                  refine Reg.Steps.zip ?_ ?_
                  · refine Reg.step_go rfl ?_
                    intro a wi ki hf hd hS hc K hK
                    have e152 : a.tmps.getD 152 undef = .bool false := hd.1.plain rfl
                    have e165 : a.tmps.getD 165 undef = .bool false := hd.2.1.plain rfl
                    clear hf hd hc
                    have hK0 := Lib.hid hK; clear hK
                    have hS0 := Lib.hid hS; clear hS
                    go_simp
                    exact hK0.out _ _ (Reg.Known.mk_val rfl rfl) (fun _ _ h => h) hS0.out
                  refine Reg.Steps.zip ?_ ?_
                  · refine Reg.step_go rfl ?_
                    intro a wi ki hf hd hS hc K hK
                    have e166 : a.tmps.getD 166 undef = .bool false := hd.1.plain rfl
                    clear hf hd hc
                    have hK0 := Lib.hid hK; clear hK
                    have hS0 := Lib.hid hS; clear hS
                    go_simp
                    exact hK0.out _ _ (Reg.Known.mk_val rfl rfl) (fun _ _ h => h) hS0.out
                  refine Reg.Steps.zip ?_ ?_
                  · refine Reg.step_on rfl (fun u w h => h.plain rfl) ?_
                    intro a wi ki hf hd hS hc K hK
                    have f21 : a.tmps.getD 21 undef = .pointer (some ⟨g, 0, none⟩) := hf.same 21 rfl
                    clear hf hd hc
                    have hK0 := Lib.hid hK; clear hK
                    have hS0 := Lib.hid hS; clear hS
                    go_simp
                    exact hK0.out _ _ (Reg.Known.mk_val rfl rfl) (fun _ _ h => h) hS0.out
                  refine Reg.Steps.zip ?_ ?_
                  · refine Reg.step_on rfl (fun u w h => h.plain rfl) ?_
                    intro a wi ki hf hd hS hc K hK
                    have f24 : a.tmps.getD 24 undef = .pointer (some ⟨gb, 0, none⟩) := hf.same 24 rfl
                    clear hf hd hc
                    have hK0 := Lib.hid hK; clear hK
                    have hS0 := Lib.hid hS; clear hS
                    go_simp
                    exact hK0.out _ _ (Reg.Known.mk_val rfl rfl) (fun _ _ h => h) hS0.out
                  refine Reg.Steps.zip ?_ ?_
                  · refine Reg.step_on rfl (fun u w h => h.plain rfl) ?_
                    intro a wi ki hf hd hS hc K hK
                    have e169 : a.tmps.getD 169 undef = .pointer (some ⟨gb, 0, none⟩) := hd.1.plain rfl
                    clear hf hd hc
                    have cc := hS.c0
                    have hK0 := Lib.hid hK; clear hK
                    have hS0 := Lib.hid hS; clear hS
                    go_simp
                    exact hK0.out _ _ (Reg.Known.mk_val rfl rfl) (fun _ _ h => h) hS0.out
                  refine Reg.Steps.zip ?_ ?_
                  · refine Reg.step_on rfl (fun u w h => h.plain rfl) ?_
                    intro a wi ki hf hd hS hc K hK
                    have f24 : a.tmps.getD 24 undef = .pointer (some ⟨gb, 0, none⟩) := hf.same 24 rfl
                    clear hf hd hc
                    have hK0 := Lib.hid hK; clear hK
                    have hS0 := Lib.hid hS; clear hS
                    go_simp
                    exact hK0.out _ _ (Reg.Known.mk_val rfl rfl) (fun _ _ h => h) hS0.out
                  refine Reg.Steps.zip ?_ ?_
                  · refine Reg.step_on rfl (fun u w h => h.plain rfl) ?_
                    intro a wi ki hf hd hS hc K hK
                    have e171 : a.tmps.getD 171 undef = .pointer (some ⟨gb, 1, none⟩) := hd.1.plain rfl
                    clear hf hd hc
                    have cc := hS.c1
                    have hK0 := Lib.hid hK; clear hK
                    have hS0 := Lib.hid hS; clear hS
                    go_simp
                    exact hK0.out _ _ (Reg.Known.mk_val rfl rfl) (fun _ _ h => h) hS0.out
                  refine Reg.Steps.zip ?_ ?_
                  · refine Reg.step_on rfl (fun u w h => h.plain rfl) ?_
                    intro a wi ki hf hd hS hc K hK
                    have e168 : a.tmps.getD 168 undef = .pointer (some ⟨g, 0, none⟩) := hd.1.plain rfl
                    have e170 : a.tmps.getD 170 undef = .int .i64 y0 := hd.2.1.plain rfl
                    have e172 : a.tmps.getD 172 undef = .int .i64 y1 := hd.2.2.1.plain rfl
                    clear hf hd
                    have HS := Lib.hid hS; clear hS
                    have hK0 := Lib.hid hK; clear hK hc
                    go_simp
                    refine (meet_m y0 y1 wi HS.out.lat).mono ?_
                    rw [HMT.out]
                    rintro e wA ⟨rfl, rfl⟩
                    exact hK0.out _ _ (Reg.Known.mk_val rfl rfl) (fun _ _ h => h) HS.out
                  refine Reg.Steps.zip ?_ ?_
                  · refine Reg.step_on rfl (fun u w h => h.plain rfl) ?_
                    intro a wi ki hf hd hS hc K hK
                    have f20 : a.tmps.getD 20 undef = .slice A N c' := hf.same 20 rfl
                    clear hf hd hc
                    have hK0 := Lib.hid hK; clear hK
                    have hS0 := Lib.hid hS; clear hS
                    go_simp
                    exact hK0.out _ _ (Reg.Known.mk_val rfl rfl) (fun _ _ h => h) hS0.out
                  refine Reg.Steps.zip ?_ ?_
                  · refine Reg.step_on rfl (fun u w h => h.plain rfl) ?_
                    intro a wi ki hf hd hS hc K hK
                    have f24 : a.tmps.getD 24 undef = .pointer (some ⟨gb, 0, none⟩) := hf.same 24 rfl
                    clear hf hd hc
                    have hK0 := Lib.hid hK; clear hK
                    have hS0 := Lib.hid hS; clear hS
                    go_simp
                    exact hK0.out _ _ (Reg.Known.mk_val rfl rfl) (fun _ _ h => h) hS0.out
                  refine Reg.Steps.zip ?_ ?_
                  · refine Reg.step_on rfl (fun u w h => h.plain rfl) ?_
                    intro a wi ki hf hd hS hc K hK
                    have e175 : a.tmps.getD 175 undef = .pointer (some ⟨gb, 0, none⟩) := hd.1.plain rfl
                    clear hf hd hc
                    have cc := hS.c0
                    have hK0 := Lib.hid hK; clear hK
                    have hS0 := Lib.hid hS; clear hS
                    go_simp
                    exact hK0.out _ _ (Reg.Known.mk_val rfl rfl) (fun _ _ h => h) hS0.out
                  refine Reg.Steps.zip ?_ ?_
                  · refine Reg.step_on rfl (fun u w h => h.plain rfl) ?_
                    intro a wi ki hf hd hS hc K hK
                    have f24 : a.tmps.getD 24 undef = .pointer (some ⟨gb, 0, none⟩) := hf.same 24 rfl
                    clear hf hd hc
                    have hK0 := Lib.hid hK; clear hK
                    have hS0 := Lib.hid hS; clear hS
                    go_simp
                    exact hK0.out _ _ (Reg.Known.mk_val rfl rfl) (fun _ _ h => h) hS0.out
                  refine Reg.Steps.zip ?_ ?_
                  · refine Reg.step_on rfl (fun u w h => h.plain rfl) ?_
                    intro a wi ki hf hd hS hc K hK
                    have e177 : a.tmps.getD 177 undef = .pointer (some ⟨gb, 1, none⟩) := hd.1.plain rfl
                    clear hf hd hc
                    have cc := hS.c1
                    have hK0 := Lib.hid hK; clear hK
                    have hS0 := Lib.hid hS; clear hS
                    go_simp
                    exact hK0.out _ _ (Reg.Known.mk_val rfl rfl) (fun _ _ h => h) hS0.out
                  refine Reg.Steps.zip ?_ ?_
                  · refine Reg.step_on rfl (fun u w h => h.plain rfl) ?_
                    intro a wi ki hf hd hS hc K hK
                    have e174 : a.tmps.getD 174 undef = .slice A N c' := hd.1.plain rfl
                    have e176 : a.tmps.getD 176 undef = .int .i64 y0 := hd.2.1.plain rfl
                    have e178 : a.tmps.getD 178 undef = .int .i64 y1 := hd.2.2.1.plain rfl
                    clear hf hd
                    have HS := Lib.hid hS; clear hS
                    have hK0 := Lib.hid hK; clear hK hc
                    go_simp
                    refine (refMeet_any y0 y1 wi HS.out.tab HM.out).mono ?_
                    rw [HMT.out]
                    rintro e wA ⟨rfl, hbA⟩
                    exact hK0.out _ _ (Reg.Known.mk_val rfl rfl) (fun i u h => known_list h hbA) (HS.out.step hbA)
                  refine Reg.Steps.zip ?_ ?_
                  · refine Reg.step_on rfl (fun u w h => h.plain rfl) ?_
                    intro a wi ki hf hd hS hc K hK
                    have e173 : a.tmps.getD 173 undef = .int .i64 mt := hd.1.plain rfl
                    have e179 : a.tmps.getD 179 undef = .int .i64 mt := hd.2.1.plain rfl
                    clear hf hd hc
                    have hK0 := Lib.hid hK; clear hK
                    have hS0 := Lib.hid hS; clear hS
                    go_simp
                    exact hK0.out _ _ (Reg.Known.mk_val rfl rfl) (fun _ _ h => h) hS0.out
                  refine Reg.Steps.zip ?_ ?_
                  · refine Reg.step_go rfl ?_
                    intro a wi ki hf hd hS hc K hK
                    have e167 : a.tmps.getD 167 undef = .bool false := hd.1.plain rfl
                    have e180 : a.tmps.getD 180 undef = .bool false := hd.2.1.plain rfl
                    clear hf hd hc
                    have hK0 := Lib.hid hK; clear hK
                    have hS0 := Lib.hid hS; clear hS
                    go_simp
                    exact hK0.out _ _ (Reg.Known.mk_val rfl rfl) (fun _ _ h => h) hS0.out
                  refine Reg.Steps.zip ?_ ?_
                  · refine Reg.step_go rfl ?_
                    intro a wi ki hf hd hS hc K hK
                    have e181 : a.tmps.getD 181 undef = .bool false := hd.1.plain rfl
                    clear hf hd hc
                    have hK0 := Lib.hid hK; clear hK
                    have hS0 := Lib.hid hS; clear hS
                    go_simp
                    exact hK0.out _ _ (Reg.Known.mk_val rfl rfl) (fun _ _ h => h) hS0.out
                  refine Reg.Steps.zip ?_ ?_
                  · refine Reg.step_on rfl (fun u w h => h.plain rfl) ?_
                    intro a wi ki hf hd hS hc K hK
                    have f21 : a.tmps.getD 21 undef = .pointer (some ⟨g, 0, none⟩) := hf.same 21 rfl
                    clear hf hd hc
                    have hK0 := Lib.hid hK; clear hK
                    have hS0 := Lib.hid hS; clear hS
                    go_simp
                    exact hK0.out _ _ (Reg.Known.mk_val rfl rfl) (fun _ _ h => h) hS0.out
                  refine Reg.Steps.zip ?_ ?_
                  · refine Reg.step_on rfl (fun u w h => h.plain rfl) ?_
                    intro a wi ki hf hd hS hc K hK
                    have f24 : a.tmps.getD 24 undef = .pointer (some ⟨gb, 0, none⟩) := hf.same 24 rfl
                    clear hf hd hc
                    have hK0 := Lib.hid hK; clear hK
                    have hS0 := Lib.hid hS; clear hS
                    go_simp
                    exact hK0.out _ _ (Reg.Known.mk_val rfl rfl) (fun _ _ h => h) hS0.out
                  refine Reg.Steps.zip ?_ ?_
                  · refine Reg.step_on rfl (fun u w h => h.plain rfl) ?_
                    intro a wi ki hf hd hS hc K hK
                    have e184 : a.tmps.getD 184 undef = .pointer (some ⟨gb, 0, none⟩) := hd.1.plain rfl
                    clear hf hd hc
                    have cc := hS.c0
                    have hK0 := Lib.hid hK; clear hK
                    have hS0 := Lib.hid hS; clear hS
                    go_simp
                    exact hK0.out _ _ (Reg.Known.mk_val rfl rfl) (fun _ _ h => h) hS0.out
                  refine Reg.Steps.zip ?_ ?_
                  · refine Reg.step_on rfl (fun u w h => h.plain rfl) ?_
                    intro a wi ki hf hd hS hc K hK
                    have e183 : a.tmps.getD 183 undef = .pointer (some ⟨g, 0, none⟩) := hd.1.plain rfl
                    have e185 : a.tmps.getD 185 undef = .int .i64 y0 := hd.2.1.plain rfl
                    clear hf hd
                    have HS := Lib.hid hS; clear hS
                    have hK0 := Lib.hid hK; clear hK hc
                    go_simp
                    refine (below_m y0 wi HS.out.lat).mono ?_
                    rw [HBL.out]
                    rintro e wA ⟨v', rfl, hv, hbA⟩
                    exact hK0.out _ _ (Reg.Known.mk_other rfl hv) (fun i u h => known_list h hbA) (HS.out.step hbA)
                  refine Reg.Steps.zip ?_ ?_
                  · refine Reg.step_on rfl (fun u w h => h.plain rfl) ?_
                    intro a wi ki hf hd hS hc K hK
                    have f20 : a.tmps.getD 20 undef = .slice A N c' := hf.same 20 rfl
                    clear hf hd hc
                    have hK0 := Lib.hid hK; clear hK
                    have hS0 := Lib.hid hS; clear hS
                    go_simp
                    exact hK0.out _ _ (Reg.Known.mk_val rfl rfl) (fun _ _ h => h) hS0.out
                  refine Reg.Steps.zip ?_ ?_
                  · refine Reg.step_on rfl (fun u w h => h.plain rfl) ?_
                    intro a wi ki hf hd hS hc K hK
                    have f24 : a.tmps.getD 24 undef = .pointer (some ⟨gb, 0, none⟩) := hf.same 24 rfl
                    clear hf hd hc
                    have hK0 := Lib.hid hK; clear hK
                    have hS0 := Lib.hid hS; clear hS
                    go_simp
                    exact hK0.out _ _ (Reg.Known.mk_val rfl rfl) (fun _ _ h => h) hS0.out
                  refine Reg.Steps.zip ?_ ?_
                  · refine Reg.step_on rfl (fun u w h => h.plain rfl) ?_
                    intro a wi ki hf hd hS hc K hK
                    have e188 : a.tmps.getD 188 undef = .pointer (some ⟨gb, 0, none⟩) := hd.1.plain rfl
                    clear hf hd hc
                    have cc := hS.c0
                    have hK0 := Lib.hid hK; clear hK
                    have hS0 := Lib.hid hS; clear hS
                    go_simp
                    exact hK0.out _ _ (Reg.Known.mk_val rfl rfl) (fun _ _ h => h) hS0.out
                  refine Reg.Steps.zip ?_ ?_
                  · refine Reg.step_on rfl (fun u w h => h.plain rfl) ?_
                    intro a wi ki hf hd hS hc K hK
                    have e187 : a.tmps.getD 187 undef = .slice A N c' := hd.1.plain rfl
                    have e189 : a.tmps.getD 189 undef = .int .i64 y0 := hd.2.1.plain rfl
                    clear hf hd
                    have HS := Lib.hid hS; clear hS
                    have hK0 := Lib.hid hK; clear hK hc
                    go_simp
                    refine (refBelow_any y0 wi HS.out.tab HM.out).mono ?_
                    rw [HBL.out]
                    rintro e wA ⟨v', rfl, hv, hbA⟩
                    exact hK0.out _ _ (Reg.Known.mk_other rfl hv) (fun i u h => known_list h hbA) (HS.out.step hbA)
                  refine Reg.Steps.zip ?_ ?_
                  · refine Reg.step_on rfl (fun u w h => h.plain rfl) ?_
                    intro a wi ki hf hd hS hc K hK
                    have x186 := hd.1.other rfl
                    have x190 := hd.2.1.other rfl
                    clear hf hd
                    have y186 : IntsV wi wi.heap.size (a.tmps.getD 186 undef) bl := x186
                    have y190 : IntsV wi wi.heap.size (a.tmps.getD 190 undef) bl := x190
                    clear x186 x190
                    obtain ⟨A186, c186, e186, h186⟩ := y186
                    obtain ⟨A190, c190, e190, h190⟩ := y190
                    have H186 := Lib.hid h186; clear h186
                    have H190 := Lib.hid h190; clear h190
                    have HS := Lib.hid hS; clear hS
                    have hK0 := Lib.hid hK; clear hK hc
                    go_simp
                    refine (ints_any _ ⟨A186, c186, rfl, H186.out⟩ ⟨A190, c190, rfl, H190.out⟩ HBM.out).mono ?_
                    rw [intsB_self bl]
                    rintro e wA ⟨rfl, hbA⟩
                    exact hK0.out _ _ (Reg.Known.mk_val rfl rfl) (fun i u h => known_list h hbA) (HS.out.step hbA)
                  refine Reg.Steps.zip ?_ ?_
                  · refine Reg.step_on rfl (fun u w h => h.plain rfl) ?_
                    intro a wi ki hf hd hS hc K hK
                    have e191 : a.tmps.getD 191 undef = .bool true := hd.1.plain rfl
                    clear hf hd hc
                    have hK0 := Lib.hid hK; clear hK
                    have hS0 := Lib.hid hS; clear hS
                    go_simp
                    exact hK0.out _ _ (Reg.Known.mk_val rfl rfl) (fun _ _ h => h) hS0.out
                  refine Reg.Steps.zip ?_ ?_
                  · refine Reg.step_go rfl ?_
                    intro a wi ki hf hd hS hc K hK
                    have e182 : a.tmps.getD 182 undef = .bool false := hd.1.plain rfl
                    have e192 : a.tmps.getD 192 undef = .bool false := hd.2.1.plain rfl
                    clear hf hd hc
                    have hK0 := Lib.hid hK; clear hK
                    have hS0 := Lib.hid hS; clear hS
                    go_simp
                    exact hK0.out _ _ (Reg.Known.mk_val rfl rfl) (fun _ _ h => h) hS0.out
                  exact Reg.Steps.nil
                case finish =>
                  intro a8 w11 hf hd hS
                  obtain ⟨u, hu⟩ : ∃ u : Nat → Value, u = fun s => a8.tmps.getD s undef := ⟨_, rfl⟩
                  have e193 : u 193 = .bool false := by rw [hu]; exact hd.1.plain rfl
                  rw [hf.eq, ← hu]
                  clear hf hu hd
                  have HS8 := Lib.hid hS.b; clear hS
                  simp (config := { maxSteps := 10000000 }) [Reg.filled, e193]
                  clear e193
                  go_wp2_with fail
                  go_roundw
                  case rel => exact ⟨q + 1, by omega, by go_num, HS8.out⟩
                  case measure => simp [intOf]; omega
              · obtain rfl : q = 3 := by omega
                have BEE := Lib.hid (BE.out.trans (HBQ.out.mono BE.out.size))
                go_wp2_with fail
                go_roundw
                case rel => exact ⟨jj + 1, by omega, by go_num, BEE.out⟩
                case measure => simp [intOf]; omega
      · obtain rfl : jj = 3 := by omega
        go_wp2_with fail
        go_ret
        exact ⟨rfl, nextB B5.out HB.out⟩

/- The claim. -/

set_option maxRecDepth 100000 in
theorem lifted (os : Os) (started : os.Started) (H : Type) (enc : TypeId × Value → H) :
    ReturnsInHanded {} Try.checked os 3 .any (Rows.latticeTellsSpec.pre6 enc Try.prog Try.f3 Rows.latticeTellsRow.domain false) (Rows.latticeTellsSpec.post enc Try.prog Try.f3 false true false false) := by
  refine returnsInHanded_of_change (C := Try.checked) ownKnobs started (by kernel_rfl) Try.func3
    (ChangeSpec.witness6 (enc := enc) (C := Try.checked) false ⟨#[], #[.slice none 0 0, .int .u8 0, .int .u8 0, .int .u8 0, .bool false, .int .i64 0, .int .i64 0], []⟩ 8 (by kernel_rfl) (by kernel_rfl) (by kernel_rfl) (by kernel_rfl)) ?_
  intro W base args ds gs before hval hW _ _
  refine law_contract rfl rfl (fun ds h => by match ds, h with | [d1, d2, d3, d4, d5, d6, d7], _ => rfl) (by decide +kernel) hW ?_
  obtain ⟨p, q, hA0, _⟩ := hW
  have hA : DataW.TrodAll enc Try.prog W 0 (fun _ => true) true Try.f3.params.toList args.toList ds p := hA0
  have hval' : ∀ (j : Nat) t v, Try.f3.params[j]? = some t → args[j]? = some v → Value.okWide Try.prog W .any base t v := hval
  rw [Try.params3] at hA hval'
  obtain ⟨v0, vs0, d0, ds0, p0, q0, hargs, rfl, rfl, h0, r0⟩ := trodAll_cons hA
  obtain ⟨v1, vs1, d1, ds1, p1, q1, rfl, rfl, rfl, h1, r1⟩ := trodAll_cons r0
  obtain ⟨v2, vs2, d2, ds2, p2, q2, rfl, rfl, rfl, h2, r2⟩ := trodAll_cons r1
  obtain ⟨v3, vs3, d3, ds3, p3, q3, rfl, rfl, rfl, h3, r3⟩ := trodAll_cons r2
  obtain ⟨v4, vs4, d4, ds4, p4, q4, rfl, rfl, rfl, h4, r4⟩ := trodAll_cons r3
  obtain ⟨v5, vs5, d5, ds5, p5, q5, rfl, rfl, rfl, h5, r5⟩ := trodAll_cons r4
  obtain ⟨v6, vs6, d6, ds6, p6, q6, rfl, rfl, rfl, h6, r6⟩ := trodAll_cons r5
  obtain ⟨rfl, rfl, rfl⟩ := trodAll_nil r6
  obtain rfl : args = #[v0, v1, v2, v3, v4, v5, v6] := by cases args; simp_all
  obtain ⟨T0, h0⟩ := open_table (hval' 0 _ v0 rfl rfl) h0
  obtain ⟨z1, rfl, rfl, rfl, w1⟩ := open_int Try.underlying5 (hval' 1 _ v1 rfl rfl) h1
  have b1 : 0 ≤ z1 ∧ z1 ≤ 255 := by simpa [Lit.wf, IntKind.min, IntKind.max, IntKind.signed, IntKind.bits] using w1
  obtain ⟨a1, rfl⟩ : ∃ n : Nat, z1 = n := ⟨z1.toNat, by omega⟩
  obtain ⟨z2, rfl, rfl, rfl, w2⟩ := open_int Try.underlying5 (hval' 2 _ v2 rfl rfl) h2
  have b2 : 0 ≤ z2 ∧ z2 ≤ 255 := by simpa [Lit.wf, IntKind.min, IntKind.max, IntKind.signed, IntKind.bits] using w2
  obtain ⟨a2, rfl⟩ : ∃ n : Nat, z2 = n := ⟨z2.toNat, by omega⟩
  obtain ⟨z3, rfl, rfl, rfl, w3⟩ := open_int Try.underlying5 (hval' 3 _ v3 rfl rfl) h3
  have b3 : 0 ≤ z3 ∧ z3 ≤ 255 := by simpa [Lit.wf, IntKind.min, IntKind.max, IntKind.signed, IntKind.bits] using w3
  obtain ⟨a3, rfl⟩ : ∃ n : Nat, z3 = n := ⟨z3.toNat, by omega⟩
  obtain ⟨a4, rfl, rfl, rfl⟩ := open_bool Try.underlying4 (hval' 4 _ v4 rfl rfl) h4
  obtain ⟨a5, rfl, rfl, rfl, w5⟩ := open_int Try.underlying3 (hval' 5 _ v5 rfl rfl) h5
  have b5 : -9223372036854775808 ≤ a5 ∧ a5 ≤ 9223372036854775807 := by simpa [Lit.wf, IntKind.min, IntKind.max, IntKind.signed, IntKind.bits] using w5
  obtain ⟨a6, rfl, rfl, rfl, w6⟩ := open_int Try.underlying3 (hval' 6 _ v6 rfl rfl) h6
  have b6 : -9223372036854775808 ≤ a6 ∧ a6 ≤ 9223372036854775807 := by simpa [Lit.wf, IntKind.min, IntKind.max, IntKind.signed, IntKind.bits] using w6
  exact walk a1 a2 a3 a4 a5 a6 W (by omega) (by omega) (by omega) b5 b6 h0

theorem proved : Rows.LatticeTellsSaid :=
  OpenClaim.holds_of_wide 3 Try.f3 rfl rfl rfl rfl rfl rfl rfl ⟨rfl, rfl, rfl, rfl, rfl⟩ rfl rfl rfl rfl rfl (by kernel_rfl) Try.func3 (by kernel_rfl)
    (of_decide_eq_true (by kernel_rfl)) (by unfold Func.isWrapper; first | (rw [if_pos (by decide +kernel)]; kernel_rfl) | (rw [if_neg (by decide +kernel)]; exact ⟨rfl, rfl⟩))
    (fun os started H enc _ => lifted os started H enc)

end Go.Proofs.Ytidjohhnggpibaa.latticeTells
