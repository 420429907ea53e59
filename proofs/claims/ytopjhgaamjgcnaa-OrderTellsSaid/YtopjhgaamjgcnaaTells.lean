/- OrderTells returns true for every input and changes nothing: all functions on tables of labels answer as the document says, for any table, any labels and any list. No condition. -/
import Derived.Test.YtopjhgaamjgcnaaKnw
import Derived.Test.YtopjhgaamjgcnaaArg
import Derived.Test.YtopjhgaamjgcnaaRegion
import Derived.Deep.CutRange
import Derived.Deep.DeepCutAuto
namespace Go.Proofs.Ytopjhgaamjgcnaa.orderTells
open Go.RowKit Go.ChangeShapes Go.WideShapes Go.ChangeAt

/-- A table made of rows that lie in memory, in a row of the call's own. -/
theorem tab_own {w : World} {base m : Nat} {v : Value} {rs : List Rw} (hm : rs.length = m) (ho : w.ownsRow base 28 1 v m (rs.map Rw.hdr)) (hr : ∀ r ∈ rs, Lies w w.heap.size r.A (bls r.l)) : TabV w w.heap.size v (rowsOf rs) := by
  obtain ⟨A, c, rfl, _, _, _, hL, _⟩ := Lies.of_own ho
  exact ⟨A, c, rs, by rw [hm], rfl, hL, hr⟩

def tXl (up lo : List Int) : Nat → List Int
  | 20 => lo
  | 26 => lo
  | _ => up
theorem known_ints {val : Nat → Value} {up lo : List Int} {sp : List Nat} {i : Nat} {v : Value} {w w' : World} (h : Reg.Known val (fun i v w => IntsV w w.heap.size v (tXl up lo i)) sp i v w) (hb : Below w.heap.size w w') :
    Reg.Known val (fun i v w => IntsV w w.heap.size v (tXl up lo i)) sp i v w' := ⟨h.plain, fun e => (h.other e).later hb⟩
theorem lies_ints {w : World} {B : Nat} {A : Option Addr} {n c : Nat} {l : List Int} (h : IntsV w B (.slice A n c) l) : Lies w B A (i64s l) := by
  obtain ⟨A', c', e, h⟩ := h
  injection e with e _ _
  subst e; exact h
theorem ints_own2 {w : World} {base n : Nat} {v : Value} {l : List Int} (h : w.ownsRow base 3 1 v n (i64s l)) : IntsV w w.heap.size v l := by
  obtain ⟨A, c, rfl, _, _, hl, h2, _⟩ := Lies.of_own h
  refine ⟨A, c, ?_, h2⟩
  rw [← hl]; simp [i64s]
theorem intsB_self (l : List Int) : intsB l l = true := by simp [intsB]
theorem upperT_len (T : List (List Bool)) (a b : Int) : (upperT T a b).length ≤ T.length := by
  unfold upperT
  split
  · rw [nats_length]; exact upK_length _ _ _ _
  · simp
theorem lowerT_len (T : List (List Bool)) (a b : Int) : (lowerT T a b).length ≤ T.length := by
  unfold lowerT
  split
  · rw [nats_length]; exact upK_length _ _ _ _
  · simp

/-- What stays while the two lists are asked for. -/
structure Hold (w0 : World) (xv : Value) (T : List (List Bool)) (gb : Nat) (y0 y1 : Int) (k : Nat) (w : World) : Prop where
  tab : TabV w w.heap.size xv T
  c0 : w.cell? ⟨gb, 0, none⟩ = some (.int .i64 y0)
  c1 : w.cell? ⟨gb, 1, none⟩ = some (.int .i64 y1)
  lt : gb < w.heap.size
  b : Below w0.heap.size w0 w
theorem Hold.step {w0 w w' : World} {xv : Value} {T : List (List Bool)} {gb : Nat} {y0 y1 : Int} {k k' : Nat} (h : Hold w0 xv T gb y0 y1 k w) (hb : Below w.heap.size w w') : Hold w0 xv T gb y0 y1 k' w' :=
  ⟨h.tab.later hb, (hb.cell (p := ⟨gb, 0, none⟩) h.lt).trans h.c0, (hb.cell (p := ⟨gb, 1, none⟩) h.lt).trans h.c1, Nat.lt_of_lt_of_le h.lt hb.size, nextB h.b hb⟩
theorem Hold.drew {w0 w : World} {xv : Value} {T : List (List Bool)} {gb : Nat} {y0 y1 : Int} {k : Nat} (h : Hold w0 xv T gb y0 y1 k w) : Hold w0 xv T gb y0 y1 k w.drew := h.step (Below.refl _ _).drew
def pt17Val (A : Option Addr) (N c' gb : Nat) (y0 y1 : Int) : Nat → Value
  | 0 => .slice A N c'
  | 1 => .pointer (some ⟨gb, 0, none⟩)
  | 2 => .int .i64 y0
  | 3 => .pointer (some ⟨gb, 1, none⟩)
  | 4 => .int .i64 y1
  | 6 => .slice A N c'
  | 7 => .pointer (some ⟨gb, 0, none⟩)
  | 8 => .int .i64 y0
  | 9 => .pointer (some ⟨gb, 1, none⟩)
  | 10 => .int .i64 y1
  | 12 => .bool true
  | 13 => .bool false
  | 14 => .bool false
  | 15 => .slice A N c'
  | 16 => .pointer (some ⟨gb, 0, none⟩)
  | 17 => .int .i64 y0
  | 18 => .pointer (some ⟨gb, 1, none⟩)
  | 19 => .int .i64 y1
  | 21 => .slice A N c'
  | 22 => .pointer (some ⟨gb, 0, none⟩)
  | 23 => .int .i64 y0
  | 24 => .pointer (some ⟨gb, 1, none⟩)
  | 25 => .int .i64 y1
  | 27 => .bool true
  | 28 => .bool false
  | 29 => .bool false
  | _ => undef


theorem lies_take {w : World} {B : Nat} {A : Option Addr} {xs : List Value} (h : Lies w B A xs) (k : Nat) : Lies w B A (xs.take k) := fun hn => by
  obtain ⟨b, off, e, hb, hc⟩ := h (by rw [List.length_take] at hn; omega)
  refine ⟨b, off, e, hb, fun j u hu => hc j u ?_⟩
  rw [List.getElem?_take] at hu
  split at hu
  · exact hu
  · cases hu

set_option maxRecDepth 100000 in
set_option maxHeartbeats 16000000 in
theorem walk {rv lv zv : Value} {T0 : List (List Bool)} {l zs : List Int} (n base cut : Nat) (a b : Int) (w : World) (hn : n ≤ 255) (hbase : base ≤ 255) (hcut : cut ≤ 255)
    (_ha : -9223372036854775808 ≤ a ∧ a ≤ 9223372036854775807) (_hb : -9223372036854775808 ≤ b ∧ b ≤ 9223372036854775807)
    (hr : TabV w w.heap.size rv T0) (hl : NumsV w w.heap.size lv l) (hz : IntsV w w.heap.size zv zs) (hzm : zs.length ≤ maxLen) (hzr : ∀ x ∈ zs, -9223372036854775808 ≤ x ∧ x ≤ 9223372036854775807) :
    Calls Try.prog 3 #[rv, .int .u8 n, .int .u8 base, lv, .int .i64 a, .int .i64 b, zv, .int .u8 cut] w fun e w' => e = .returned (.bool true) ∧ Below w.heap.size w w' := by
  unfold maxLen at hzm
  obtain ⟨A0, n0, c0, rfl⟩ : ∃ A0 n0 c0, rv = .slice A0 n0 c0 := by
    obtain ⟨A, c, rs, e, _⟩ := hr
    exact ⟨A, _, c, e⟩
  have HR := Lib.hid hr; clear hr
  have HL := Lib.hid hl; clear hl
  have HZ := Lib.hid hz
  obtain ⟨AZ, cZ, rfl, hlz⟩ := hz
  have HLZ := Lib.hid hlz; clear hlz
  have HZR := Lib.hid hzr; clear hzr
  obtain ⟨nz, hnz⟩ : ∃ nz, zs.length = nz := ⟨_, rfl⟩
  rw [hnz] at hzm HZ ⊢
  have HNZ := Lib.hid hnz; clear hnz
  cases hsm : smallB T0 with
  | false =>
    go_enter Try.func3, Try.ntmps3
    go_wp2_with fail
    refine (known_any w).mono ?_
    rintro e w1 ⟨rfl, hb1⟩
    have q := small_any w1 (HR.out.later hb1)
    rw [hsm] at q
    have Q := Lib.hid q; clear q hsm
    go_wp2_with fail
    refine Q.out.mono ?_
    rintro e w' ⟨rfl, rfl⟩
    go_wp2_with fail
    go_ret
    exact ⟨rfl, hb1⟩
  | true =>
  by_cases hbig : 10 < nz
  · have d1 : decide (10 < (nz : Int)) = true := decide_eq_true (by omega)
    go_enter Try.func3, Try.ntmps3
    go_wp2_with fail
    refine (known_any w).mono ?_
    rintro e w1 ⟨rfl, hb1⟩
    have q := small_any w1 (HR.out.later hb1)
    rw [hsm] at q
    have Q := Lib.hid q; clear q hsm
    go_wp2_with fail
    refine Q.out.mono ?_
    rintro e w' ⟨rfl, rfl⟩
    go_wp2_with fail
    go_ret
    exact ⟨rfl, hb1⟩
  have d1 : decide (10 < (nz : Int)) = false := decide_eq_false (by omega)
  have hT0 : T0.length ≤ 20 := (smallB_iff.1 hsm).1
  go_enter Try.func3, Try.ntmps3
  go_wp2_with fail
  refine (known_any w).mono ?_
  rintro e w1 ⟨rfl, hb1⟩
  have q := small_any w1 (HR.out.later hb1)
  rw [hsm] at q
  have Q := Lib.hid q; clear q hsm
  have B1 := Lib.hid hb1; clear hb1
  go_wp2_with fail
  refine Q.out.mono ?_
  rintro e w' ⟨rfl, rfl⟩
  clear Q
  go_wp2_with fail
  refine (table_any w1 n base hn hbase ((HL.out.below B1.out).more B1.out.size)).mono ?_
  obtain ⟨m, hm⟩ : ∃ m, n % 6 + 1 = m := ⟨_, rfl⟩
  have h1 : 1 ≤ m := by omega
  have h6 : m ≤ 6 := by omega
  rw [hm]
  clear hm HL
  rintro e w2 ⟨qv, G, C, Z, rfl, hg, hb2⟩
  obtain ⟨g, c, rfl, p1, p2, p3, hog⟩ := hg.grid h1
  clear p1 p3
  have HF := Lib.hid hg; clear hg
  have B2 := Lib.hid (nextB B1.out hb2); clear hb2 B1
  have hlies : Lies w2 w2.heap.size (some ⟨g, 0, none⟩) (hdrs m m G C) := by
    obtain ⟨A', c', e1, _, _, _, h7, _⟩ := Lies.of_own hog
    injection e1 with e1 _ _
    rw [e1]; exact h7
  have HLI := Lib.hid hlies; clear hlies hog
  go_wp2_with (at_builtin; go_must (refine wpList_append_L 22 28 _ 24 Try.underlying22 inf_row rfl rfl _ _ rfl w2.heap.size _ _ _ rfl (World.ownsRow_nil _ _ _ _) w2.heap.size _ m c (hdrs m m G C) rfl (hdrs_length m m G C) HLI.out ?c2 ?c3 ?c4 ?c5 ?_))
  case c2 =>
    intro u hu
    obtain ⟨j, _, rfl⟩ := List.mem_map.1 hu
    rfl
  case c3 => omega
  case c4 => omega
  case c5 => exact Nat.le_refl _
  intro mv w3 ho3 _ hb3
  have HF3 := Lib.hid (HF.out.below hb3)
  have B3 := Lib.hid (nextB B2.out hb3)
  have hs23 := hb3.size
  have hs02 := B2.out.size
  clear hb3 HF B2 HLI
  obtain ⟨gm, cm, rfl, hgm⟩ : ∃ gm cm, mv = .slice (some ⟨gm, 0, none⟩) m cm ∧ w2.heap.size ≤ gm := by
    rcases ho3.2 with ⟨_, h0⟩ | ⟨gm, cap, cur, rfl, hb, _⟩
    · omega
    · exact ⟨gm, cap, rfl, hb⟩
  have HO3 := Lib.hid ho3; clear ho3
  go_upto_if 53 with (fail)
  go_cut [54] from 51 to 68 (fun _ wx => ∃ Tm, TabV wx wx.heap.size (.slice (some ⟨gm, 0, none⟩) m cm) Tm ∧ Tm.length = m ∧ TabV wx wx.heap.size (.slice (some ⟨g, 0, none⟩) m c) (tabOf m Z) ∧ Below w.heap.size w wx)
  case first =>
    by_cases h4 : cut % 4 = 0
    · have e4 : ((cut : Int) % 4 == 0) = true := by simp; omega
      obtain ⟨ct, hct⟩ : ∃ ct : Nat, (cut : Int) / 4 = ct := ⟨cut / 4, by omega⟩
      have hct2 : ct ≤ 63 := by omega
      obtain ⟨i, hi⟩ : ∃ i : Nat, ct % m = i := ⟨_, rfl⟩
      have him : i < m := by rw [← hi]; exact Nat.mod_lt _ (by omega)
      have f1 : IntKind.u8.wrap (ct : Int) = ct := IntWalk.u8_in _ (by omega)
      have f2 : IntKind.i64.wrap (ct : Int) = ct := IntWalk.i64_in _ (by omega)
      have f3 : (ct : Int).tmod (m : Int) = i := by rw [Int.tmod_eq_emod_of_nonneg (by omega), ← hi]; omega
      have f4 : IntKind.i64.wrap (i : Int) = i := IntWalk.i64_in _ (by omega)
      obtain ⟨m1, hm1⟩ : ∃ m1 : Nat, (m : Int) - 1 = m1 := ⟨m - 1, by omega⟩
      have HM1 := Lib.hid (show m1 = m - 1 by omega)
      have f5 : IntKind.i64.wrap (m1 : Int) = m1 := IntWalk.i64_in _ (by omega)
      have f6 : ((m : Int) == 0) = false := by simp; omega
      have f8 : ¬ (m : Int) = 0 := by omega
      have f9 : ¬ m = 0 := by omega
      have f10 : (0 : Int) < m := by omega
      have f11 : 0 < m := by omega
      have f12 : (i : Int) < m := by omega
      have f7 : (ct : Int) % (m : Int) = i := by rw [← hi]; omega
      clear hi
      have t0 : w3.cell? ⟨gm, 0, none⟩ = some (.slice (some ⟨G 0, 0, none⟩) m (C 0)) := by
        rw [HO3.out.cellAt 0 (by omega), hdrs_get (by omega)]
      have t5 : w3.cell? ⟨gm, i, none⟩ = some (.slice (some ⟨G i, 0, none⟩) m (C i)) := by
        rw [HO3.out.cellAt i (by omega), hdrs_get him]
      have t1 : w3.frozen? ⟨gm, i, none⟩ = false := HO3.out.frozenAt i
      have t2 := HF3.out.rows.cap 0 (by omega)
      have t3 : m1 ≤ C 0 := by have := HM1.out; omega
      have t4 : (m1 : Int) ≤ C 0 := by omega
      go_wp2_with fail
      go_still_tail 15, (by kernel_rfl)
      change wpList _ _ _ _ _ w3.drew
      go_wp2_with fail
      go_meet
      have hst := HO3.out.stored i (.slice (some ⟨G 0, 0, none⟩) m1 (C 0))
      have hrows := HF3.out.rows.grown HO3.out hst.2
      refine ⟨rowsOf ((rowsL m G C Z).set i ⟨some ⟨G 0, 0, none⟩, C 0, (rowOf m (Z 0)).take m1⟩), (tab_own (m := m) (base := w2.heap.size) (by simp [rowsL]) ?_ fun r hr => ?_).later (Below.refl _ _).drew, by simp [rowsOf, rowsL], (FG.tab ⟨HF3.out.own.kept hst.2 (.inr ?_), hrows⟩).later (Below.refl _ _).drew, (B3.out.setCell (p := ⟨gm, i, none⟩) (show w.heap.size ≤ gm by omega) _).drew⟩
      · rw [List.map_set, rowsL_hdr]
        have e : Rw.hdr ⟨some ⟨G 0, 0, none⟩, C 0, (rowOf m (Z 0)).take m1⟩ = .slice (some ⟨G 0, 0, none⟩) m1 (C 0) := by
          simp only [Rw.hdr, List.length_take, rowOf_length]
          rw [Nat.min_eq_left (by have := HM1.out; omega)]
        rw [e]
        exact hst.1
      · rcases List.mem_or_eq_of_mem_set hr with hr | rfl
        · exact hrows.lies r hr
        · have h0 := hrows.lies ⟨some ⟨G 0, 0, none⟩, C 0, rowOf m (Z 0)⟩ (List.mem_map.2 ⟨0, by simp; omega, rfl⟩)
          have h2 := lies_take h0 m1
          simpa [bls] using h2
      · intro e
        simp [Value.ownBlock] at e
        omega
    · have e4 : ((cut : Int) % 4 == 0) = false := by simp; omega
      go_wp2_with fail
      go_meet
      refine ⟨rowsOf (rowsL m G C Z), tab_own (m := m) (by simp [rowsL]) (by rw [rowsL_hdr]; exact HO3.out) HF3.out.rows.lies, by simp [rowsOf, rowsL], HF3.out.tab, B3.out⟩
  case rest =>
    clear HF3 HO3 B3 hgm hs23 hs02 p2
    obtain ⟨Tm, ht1, htm, ht2, hbx⟩ := hcut
    have HM := Lib.hid ht1; clear ht1
    have HQ := Lib.hid ht2; clear ht2
    have BX := Lib.hid hbx; clear hbx
    go_wp2_with fail
    obtain ⟨w5, hw5⟩ : ∃ w5 : World, w5 = wc.alloc (.cells #[Value.slice A0 n0 c0, Value.slice (some ⟨g, 0, none⟩) m c, Value.slice (some ⟨gm, 0, none⟩) m cm] 22) := ⟨_, rfl⟩
    have b5 : Below wc.heap.size wc w5 := by rw [hw5]; exact below_alloc _ _
    have hs5 : w5.heap.size = wc.heap.size + 1 := by rw [hw5, World.size_alloc]
    have hX : Lies w5 w5.heap.size (some ⟨wc.heap.size, 0, none⟩) [Value.slice A0 n0 c0, Value.slice (some ⟨g, 0, none⟩) m c, Value.slice (some ⟨gm, 0, none⟩) m cm] := by
      rw [hs5, hw5]; exact lies_new wc [Value.slice A0 n0 c0, Value.slice (some ⟨g, 0, none⟩) m c, Value.slice (some ⟨gm, 0, none⟩) m cm] 22
    have hT : ∀ v ∈ [Value.slice A0 n0 c0, Value.slice (some ⟨g, 0, none⟩) m c, Value.slice (some ⟨gm, 0, none⟩) m cm], ∃ T : List (List Bool), T.length ≤ 20 ∧ TabV w5 w5.heap.size v T := by
      intro v hv
      simp only [List.mem_cons, List.not_mem_nil, or_false] at hv
      rcases hv with rfl | rfl | rfl
      · exact ⟨T0, hT0, (HR.out.later BX.out).later b5⟩
      · exact ⟨tabOf m Z, by rw [tabOf_length]; omega, HQ.out.later b5⟩
      · exact ⟨Tm, by omega, HM.out.later b5⟩
    obtain ⟨vs, hvs⟩ : ∃ vs, vs = [Value.slice A0 n0 c0, Value.slice (some ⟨g, 0, none⟩) m c, Value.slice (some ⟨gm, 0, none⟩) m cm] := ⟨_, rfl⟩
    have hvl : vs.length = 3 := by rw [hvs]; rfl
    rw [← hvs] at hX hT
    rw [← hw5]
    have HX := Lib.hid hX; clear hX
    have HT := Lib.hid hT; clear hT
    have HVL := Lib.hid hvl; clear hvl
    have B5 := Lib.hid (nextB BX.out b5)
    have HZ5 := Lib.hid (HZ.out.later B5.out)
    obtain ⟨gx, hgx⟩ : ∃ gx, wc.heap.size = gx := ⟨_, rfl⟩
    rw [hgx] at HX ⊢
    clear hvs hw5 b5 hs5 HM HQ BX htm hgx hT0 HR HZ
    go_loopw [74] (fun i wr => ∃ j : Nat, j ≤ 3 ∧ i = .int .i64 j ∧ Below w5.heap.size w5 wr) (fun i _ => 3 - (intOf i).toNat)
    case atStart => exact ⟨0, by omega, rfl, Below.refl _ _⟩
    case round =>
      obtain ⟨j, hj, rfl, hb'⟩ := hrel
      have HB := Lib.hid hb'; clear hb'
      by_cases hj3 : j < 3
      · have hjv : j < vs.length := by rw [HVL.out]; exact hj3
        obtain ⟨bX, oX, hXe, hbX, hcX⟩ := HX.out.cell (k := j) hjv
        injection hXe with hXe; injection hXe with hx1 hx2 _
        subst hx1 hx2
        rw [Nat.zero_add] at hcX
        have c1 : wr.cell? ⟨gx, j, none⟩ = some vs[j] := by rw [HB.out.cell (p := ⟨gx, j, none⟩) hbX]; exact hcX
        obtain ⟨T, hT20, hT⟩ := HT.out vs[j] (List.getElem_mem hjv)
        generalize vs[j] = xv at *
        have HTV := Lib.hid (hT.later HB.out)
        have BR := Lib.hid (nextB B5.out HB.out)
        have HZR2 := Lib.hid (HZ5.out.later HB.out)
        clear hT hcX hbX
        obtain ⟨A, c', rs, rfl, hrt, _, _⟩ := id HTV.out
        have hlen : rs.length = T.length := by rw [← hrt]; simp [rowsOf]
        clear hrt
        rw [hlen] at c1 HTV
        clear hlen
        obtain ⟨N, hN⟩ : ∃ N, T.length = N := ⟨_, rfl⟩
        rw [hN] at c1 HTV hT20
        have HN := Lib.hid hN; clear hN
        have q1 := sq_any wr HTV.out
        have q2 := refSq_any wr HTV.out
        have q3 := refl_any wr HTV.out
        have q4 := refRefl_any wr HTV.out
        have q5 := anti_any wr HTV.out
        have q6 := refAnti_any wr HTV.out
        have q7 := trans_any wr HTV.out
        have q8 := refTrans_any wr HTV.out
        generalize sqB T = s1 at q1 q2
        generalize reflB T = s2 at q3 q4
        generalize antiB T = s3 at q5 q6
        generalize transB T = s4 at q7 q8
        have Q1 := Lib.hid q1; clear q1
        have Q2 := Lib.hid q2; clear q2
        have Q3 := Lib.hid q3; clear q3
        have Q4 := Lib.hid q4; clear q4
        have Q5 := Lib.hid q5; clear q5
        have Q6 := Lib.hid q6; clear q6
        have Q7 := Lib.hid q7; clear q7
        have Q8 := Lib.hid q8; clear q8
        have e1 : (s1 != s1) = false := by cases s1 <;> rfl
        have e2 : (s2 != s2) = false := by cases s2 <;> rfl
        have e3 : (s3 != s3) = false := by cases s3 <;> rfl
        have e4 : (s4 != s4) = false := by cases s4 <;> rfl
        go_wp2_with fail
        refine Q1.out.mono ?_
        rintro e w' ⟨rfl, rfl⟩
        go_wp2_with fail
        refine Q2.out.mono ?_
        rintro e w' ⟨rfl, rfl⟩
        go_wp2_with fail
        refine Q3.out.mono ?_
        rintro e w' ⟨rfl, rfl⟩
        go_wp2_with fail
        refine Q4.out.mono ?_
        rintro e w' ⟨rfl, rfl⟩
        go_wp2_with fail
        refine Q5.out.mono ?_
        rintro e w' ⟨rfl, rfl⟩
        go_wp2_with fail
        refine Q6.out.mono ?_
        rintro e w' ⟨rfl, rfl⟩
        go_wp2_with fail
        refine Q7.out.mono ?_
        rintro e w' ⟨rfl, rfl⟩
        go_wp2_with fail
        refine Q8.out.mono ?_
        rintro e w' ⟨rfl, rfl⟩
        clear Q1 Q2 Q3 Q4 Q5 Q6 Q7 Q8 e1 e2 e3 e4
        go_wp2_with fail
        obtain ⟨ys, hys⟩ : ∃ ys, ys = [a, b, bits .and .i64 a 7, bits .and .i64 b 7, (cut : Int) % 7, (base : Int) % 7] := ⟨_, rfl⟩
        obtain ⟨w6, hw6⟩ : ∃ w6 : World, w6 = wr.alloc (.cells #[Value.int .i64 a, Value.int .i64 b, Value.int .i64 (bits .and .i64 a 7), Value.int .i64 (bits .and .i64 b 7), Value.int .i64 ((cut : Int) % 7), Value.int .i64 ((base : Int) % 7)] 30) := ⟨_, rfl⟩
        have b6 : Below wr.heap.size wr w6 := by rw [hw6]; exact below_alloc _ _
        have hY : Lies w6 w6.heap.size (some ⟨wr.heap.size, 0, none⟩) (i64s ys) := by
          rw [hw6, World.size_alloc, hys]; exact lies_new wr [Value.int .i64 a, Value.int .i64 b, Value.int .i64 (bits .and .i64 a 7), Value.int .i64 (bits .and .i64 b 7), Value.int .i64 ((cut : Int) % 7), Value.int .i64 ((base : Int) % 7)] 30
        have hyl : ys.length = 6 := by rw [hys]; rfl
        rw [← hw6]
        have HY := Lib.hid hY; clear hY
        have HYL := Lib.hid hyl; clear hyl
        have HT6 := Lib.hid (HTV.out.later b6)
        have B6 := Lib.hid (nextB BR.out b6)
        have HR6 := Lib.hid (nextB HB.out b6)
        have HZ6 := Lib.hid (HZR2.out.later b6)
        obtain ⟨gy, hgy⟩ : ∃ gy, wr.heap.size = gy := ⟨_, rfl⟩
        rw [hgy] at HY ⊢
        clear hys hw6 b6 HTV BR HB HZR2 c1 hgy
        go_loopw [121] (fun i wr => ∃ q : Nat, q ≤ 3 ∧ i = .int .i64 q ∧ Below w6.heap.size w6 wr) (fun i _ => 3 - (intOf i).toNat)
        case atStart => exact ⟨0, by omega, rfl, Below.refl _ _⟩
        case round =>
          obtain ⟨q, hq, rfl, hb'⟩ := hrel
          have HB := Lib.hid hb'; clear hb'
          by_cases hq3 : q < 3
          · have hq1 : q * 2 < ys.length := by rw [HYL.out]; omega
            have hq2 : q * 2 + 1 < ys.length := by rw [HYL.out]; omega
            obtain ⟨bY, oY, hYe, hbY, hcY⟩ := lie_int HY.out hq1
            injection hYe with hYe; injection hYe with hy1 hy2 _
            subst hy1 hy2
            obtain ⟨bY, oY, hYe, _, hcY2⟩ := lie_int HY.out hq2
            injection hYe with hYe; injection hYe with hy1 hy2 _
            subst hy1 hy2
            rw [Nat.zero_add] at hcY hcY2
            have k1 : wr.cell? ⟨gy, q * 2, none⟩ = some (.int .i64 ys[q * 2]) := by rw [HB.out.cell (p := ⟨gy, q * 2, none⟩) hbY]; exact hcY
            have k2 : wr.cell? ⟨gy, q * 2 + 1, none⟩ = some (.int .i64 ys[q * 2 + 1]) := by rw [HB.out.cell (p := ⟨gy, q * 2 + 1, none⟩) hbY]; exact hcY2
            generalize ys[q * 2] = y0 at *
            generalize ys[q * 2 + 1] = y1 at *
            clear hcY hcY2 hbY hq1 hq2
            go_upto_region 17 with (fail)
            obtain ⟨w7, hw7⟩ : ∃ w7 : World, w7 = wr.alloc (.cells #[Value.int .i64 y0, Value.int .i64 y1] 30) := ⟨_, rfl⟩
            have b7 : Below wr.heap.size wr w7 := by rw [hw7]; exact below_alloc _ _
            have hs7 : w7.heap.size = wr.heap.size + 1 := by rw [hw7, World.size_alloc]
            have hh7 : w7.heap[wr.heap.size]? = some (.cells #[Value.int .i64 y0, Value.int .i64 y1] 30 (0, 0)) := by rw [hw7]; exact heap_alloc_new wr _
            obtain ⟨gb, hgb⟩ : ∃ gb, wr.heap.size = gb := ⟨_, rfl⟩
            rw [hgb] at hs7 hh7
            rw [← hw7, hgb]
            obtain ⟨up, hup⟩ : ∃ up, upperT T y0 y1 = up := ⟨_, rfl⟩
            obtain ⟨lo, hlo⟩ : ∃ lo, lowerT T y0 y1 = lo := ⟨_, rfl⟩
            have HUP := Lib.hid (show up.length ≤ 1000 by have := upperT_len T y0 y1; rw [HN.out, hup] at this; omega)
            have HLO := Lib.hid (show lo.length ≤ 1000 by have := lowerT_len T y0 y1; rw [HN.out, hlo] at this; omega)
            have HHO := Lib.hid (show Hold w6 (.slice A N c') T gb y0 y1 0 w7 from ⟨(HT6.out.later HB.out).later b7, cell_blk hh7 0, cell_blk hh7 1, by omega, nextB HB.out b7⟩)
            clear hw7 b7 hs7 hh7 hgb k1 k2 HB
            have HU := Lib.hid hup; clear hup
            have HLW := Lib.hid hlo; clear hlo
            refine Reg.wp_facts_sl [125, 126, 127, 128, 129, 130, 131, 132, 133, 134, 135, 136, 137, 138, 139, 140, 141, 142, 143, 144, 145, 146, 147, 148, 149, 150, 151, 152, 153, 154] rfl [] [[], [], [(1, 126)], [], [(3, 128)], [(0, 125), (2, 127), (4, 129)], [], [], [(7, 132)], [], [(9, 134)], [(6, 131), (8, 133), (10, 135)], [(5, 130), (11, 136)], [(12, 137)], [(13, 138)], [], [], [(16, 141)], [], [(18, 143)], [(15, 140), (17, 142), (19, 144)], [], [], [(22, 147)], [], [(24, 149)], [(21, 146), (23, 148), (25, 150)], [(20, 145), (26, 151)], [(27, 152)], [(14, 139), (28, 153)]] [(29, 154)] (Reg.Known (pt17Val A N c' gb y0 y1) (fun i v w => IntsV w w.heap.size v (tXl up lo i)) [5, 11, 20, 26]) (Hold w6 (.slice A N c') T gb y0 y1) (by kernel_rfl) (by kernel_rfl) ?start ?steps ?finish
            case start => exact HHO.out.drew
            case steps =>
              refine Reg.Steps.zip ?_ ?_
              · refine Reg.step_go rfl ?_
                intro a wi ki hf hd hS hc K hK
                have f20 : a.tmps.getD 20 undef = .slice A N c' := hf.same 20 rfl
                clear hf hd hc
                have hK0 := Lib.hid hK; clear hK
                have hS0 := Lib.hid hS; clear hS
                go_simp
                exact hK0.out _ _ (Reg.Known.mk_val rfl rfl) (fun _ _ h => h) hS0.out
              refine Reg.Steps.zip ?_ ?_
              · refine Reg.step_go rfl ?_
                intro a wi ki hf hd hS hc K hK
                have f22 : a.tmps.getD 22 undef = .pointer (some ⟨gb, 0, none⟩) := hf.same 22 rfl
                clear hf hd hc
                have hK0 := Lib.hid hK; clear hK
                have hS0 := Lib.hid hS; clear hS
                go_simp
                exact hK0.out _ _ (Reg.Known.mk_val rfl rfl) (fun _ _ h => h) hS0.out
              refine Reg.Steps.zip ?_ ?_
              · refine Reg.step_go rfl ?_
                intro a wi ki hf hd hS hc K hK
                have e126 : a.tmps.getD 126 undef = .pointer (some ⟨gb, 0, none⟩) := hd.1.plain rfl
                clear hf hd hc
                have cc := hS.c0
                have hK0 := Lib.hid hK; clear hK
                have hS0 := Lib.hid hS; clear hS
                go_simp
                exact hK0.out _ _ (Reg.Known.mk_val rfl rfl) (fun _ _ h => h) hS0.out
              refine Reg.Steps.zip ?_ ?_
              · refine Reg.step_go rfl ?_
                intro a wi ki hf hd hS hc K hK
                have f22 : a.tmps.getD 22 undef = .pointer (some ⟨gb, 0, none⟩) := hf.same 22 rfl
                clear hf hd hc
                have hK0 := Lib.hid hK; clear hK
                have hS0 := Lib.hid hS; clear hS
                go_simp
                exact hK0.out _ _ (Reg.Known.mk_val rfl rfl) (fun _ _ h => h) hS0.out
              refine Reg.Steps.zip ?_ ?_
              · refine Reg.step_go rfl ?_
                intro a wi ki hf hd hS hc K hK
                have e128 : a.tmps.getD 128 undef = .pointer (some ⟨gb, 1, none⟩) := hd.1.plain rfl
                clear hf hd hc
                have cc := hS.c1
                have hK0 := Lib.hid hK; clear hK
                have hS0 := Lib.hid hS; clear hS
                go_simp
                exact hK0.out _ _ (Reg.Known.mk_val rfl rfl) (fun _ _ h => h) hS0.out
              refine Reg.Steps.zip ?_ ?_
              · refine Reg.step_go rfl ?_
                intro a wi ki hf hd hS hc K hK
                have e125 : a.tmps.getD 125 undef = .slice A N c' := hd.1.plain rfl
                have e127 : a.tmps.getD 127 undef = .int .i64 y0 := hd.2.1.plain rfl
                have e129 : a.tmps.getD 129 undef = .int .i64 y1 := hd.2.2.1.plain rfl
                clear hf hd
                have HS := Lib.hid hS; clear hS
                have hK0 := Lib.hid hK; clear hK hc
                go_simp
                refine (upper_any _ HS.out.tab).mono ?_
                rw [HU.out]
                rintro e wA ⟨v', rfl, hv, hbA⟩
                exact hK0.out _ _ (Reg.Known.mk_other rfl hv) (fun i u h => known_ints h hbA) (HS.out.step hbA)
              refine Reg.Steps.zip ?_ ?_
              · refine Reg.step_go rfl ?_
                intro a wi ki hf hd hS hc K hK
                have f20 : a.tmps.getD 20 undef = .slice A N c' := hf.same 20 rfl
                clear hf hd hc
                have hK0 := Lib.hid hK; clear hK
                have hS0 := Lib.hid hS; clear hS
                go_simp
                exact hK0.out _ _ (Reg.Known.mk_val rfl rfl) (fun _ _ h => h) hS0.out
              refine Reg.Steps.zip ?_ ?_
              · refine Reg.step_go rfl ?_
                intro a wi ki hf hd hS hc K hK
                have f22 : a.tmps.getD 22 undef = .pointer (some ⟨gb, 0, none⟩) := hf.same 22 rfl
                clear hf hd hc
                have hK0 := Lib.hid hK; clear hK
                have hS0 := Lib.hid hS; clear hS
                go_simp
                exact hK0.out _ _ (Reg.Known.mk_val rfl rfl) (fun _ _ h => h) hS0.out
              refine Reg.Steps.zip ?_ ?_
              · refine Reg.step_go rfl ?_
                intro a wi ki hf hd hS hc K hK
                have e132 : a.tmps.getD 132 undef = .pointer (some ⟨gb, 0, none⟩) := hd.1.plain rfl
                clear hf hd hc
                have cc := hS.c0
                have hK0 := Lib.hid hK; clear hK
                have hS0 := Lib.hid hS; clear hS
                go_simp
                exact hK0.out _ _ (Reg.Known.mk_val rfl rfl) (fun _ _ h => h) hS0.out
              refine Reg.Steps.zip ?_ ?_
              · refine Reg.step_go rfl ?_
                intro a wi ki hf hd hS hc K hK
                have f22 : a.tmps.getD 22 undef = .pointer (some ⟨gb, 0, none⟩) := hf.same 22 rfl
                clear hf hd hc
                have hK0 := Lib.hid hK; clear hK
                have hS0 := Lib.hid hS; clear hS
                go_simp
                exact hK0.out _ _ (Reg.Known.mk_val rfl rfl) (fun _ _ h => h) hS0.out
              refine Reg.Steps.zip ?_ ?_
              · refine Reg.step_go rfl ?_
                intro a wi ki hf hd hS hc K hK
                have e134 : a.tmps.getD 134 undef = .pointer (some ⟨gb, 1, none⟩) := hd.1.plain rfl
                clear hf hd hc
                have cc := hS.c1
                have hK0 := Lib.hid hK; clear hK
                have hS0 := Lib.hid hS; clear hS
                go_simp
                exact hK0.out _ _ (Reg.Known.mk_val rfl rfl) (fun _ _ h => h) hS0.out
              refine Reg.Steps.zip ?_ ?_
              · refine Reg.step_go rfl ?_
                intro a wi ki hf hd hS hc K hK
                have e131 : a.tmps.getD 131 undef = .slice A N c' := hd.1.plain rfl
                have e133 : a.tmps.getD 133 undef = .int .i64 y0 := hd.2.1.plain rfl
                have e135 : a.tmps.getD 135 undef = .int .i64 y1 := hd.2.2.1.plain rfl
                clear hf hd
                have HS := Lib.hid hS; clear hS
                have hK0 := Lib.hid hK; clear hK hc
                go_simp
                refine (refUpper_any _ HS.out.tab).mono ?_
                rw [HU.out]
                rintro e wA ⟨v', rfl, hv, hbA⟩
                exact hK0.out _ _ (Reg.Known.mk_other rfl hv) (fun i u h => known_ints h hbA) (HS.out.step hbA)
              refine Reg.Steps.zip ?_ ?_
              · refine Reg.step_go rfl ?_
                intro a wi ki hf hd hS hc K hK
                have x130 := hd.1.other rfl
                have x136 := hd.2.1.other rfl
                clear hf hd
                have y130 : IntsV wi wi.heap.size (a.tmps.getD 130 undef) up := x130
                have y136 : IntsV wi wi.heap.size (a.tmps.getD 136 undef) up := x136
                clear x130 x136
                obtain ⟨A130, c130, e130, h130⟩ := y130
                obtain ⟨A136, c136, e136, h136⟩ := y136
                have H130 := Lib.hid h130; clear h130
                have H136 := Lib.hid h136; clear h136
                have HS := Lib.hid hS; clear hS
                have hK0 := Lib.hid hK; clear hK hc
                go_simp
                refine (ints_any _ ⟨A130, c130, rfl, H130.out⟩ ⟨A136, c136, rfl, H136.out⟩ HUP.out).mono ?_
                rw [intsB_self up]
                rintro e wA ⟨rfl, hbA⟩
                exact hK0.out _ _ (Reg.Known.mk_val rfl rfl) (fun i u h => known_ints h hbA) (HS.out.step hbA)
              refine Reg.Steps.zip ?_ ?_
              · refine Reg.step_go rfl ?_
                intro a wi ki hf hd hS hc K hK
                have e137 : a.tmps.getD 137 undef = .bool true := hd.1.plain rfl
                clear hf hd hc
                have hK0 := Lib.hid hK; clear hK
                have hS0 := Lib.hid hS; clear hS
                go_simp
                exact hK0.out _ _ (Reg.Known.mk_val rfl rfl) (fun _ _ h => h) hS0.out
              refine Reg.Steps.zip ?_ ?_
              · refine Reg.step_go rfl ?_
                intro a wi ki hf hd hS hc K hK
                have e138 : a.tmps.getD 138 undef = .bool false := hd.1.plain rfl
                clear hf hd hc
                have hK0 := Lib.hid hK; clear hK
                have hS0 := Lib.hid hS; clear hS
                go_simp
                exact hK0.out _ _ (Reg.Known.mk_val rfl rfl) (fun _ _ h => h) hS0.out
              refine Reg.Steps.zip ?_ ?_
              · refine Reg.step_on rfl (fun u w h => h.plain rfl) ?_
                intro a wi ki hf hd hS hc K hK
                have f20 : a.tmps.getD 20 undef = .slice A N c' := hf.same 20 rfl
                clear hf hd hc
                have hK0 := Lib.hid hK; clear hK
                have hS0 := Lib.hid hS; clear hS
                go_simp
                exact hK0.out _ _ (Reg.Known.mk_val rfl rfl) (fun _ _ h => h) hS0.out
              refine Reg.Steps.zip ?_ ?_
              · refine Reg.step_on rfl (fun u w h => h.plain rfl) ?_
                intro a wi ki hf hd hS hc K hK
                have f22 : a.tmps.getD 22 undef = .pointer (some ⟨gb, 0, none⟩) := hf.same 22 rfl
                clear hf hd hc
                have hK0 := Lib.hid hK; clear hK
                have hS0 := Lib.hid hS; clear hS
                go_simp
                exact hK0.out _ _ (Reg.Known.mk_val rfl rfl) (fun _ _ h => h) hS0.out
              refine Reg.Steps.zip ?_ ?_
              · refine Reg.step_on rfl (fun u w h => h.plain rfl) ?_
                intro a wi ki hf hd hS hc K hK
                have e141 : a.tmps.getD 141 undef = .pointer (some ⟨gb, 0, none⟩) := hd.1.plain rfl
                clear hf hd hc
                have cc := hS.c0
                have hK0 := Lib.hid hK; clear hK
                have hS0 := Lib.hid hS; clear hS
                go_simp
                exact hK0.out _ _ (Reg.Known.mk_val rfl rfl) (fun _ _ h => h) hS0.out
              refine Reg.Steps.zip ?_ ?_
              · refine Reg.step_on rfl (fun u w h => h.plain rfl) ?_
                intro a wi ki hf hd hS hc K hK
                have f22 : a.tmps.getD 22 undef = .pointer (some ⟨gb, 0, none⟩) := hf.same 22 rfl
                clear hf hd hc
                have hK0 := Lib.hid hK; clear hK
                have hS0 := Lib.hid hS; clear hS
                go_simp
                exact hK0.out _ _ (Reg.Known.mk_val rfl rfl) (fun _ _ h => h) hS0.out
              refine Reg.Steps.zip ?_ ?_
              · refine Reg.step_on rfl (fun u w h => h.plain rfl) ?_
                intro a wi ki hf hd hS hc K hK
                have e143 : a.tmps.getD 143 undef = .pointer (some ⟨gb, 1, none⟩) := hd.1.plain rfl
                clear hf hd hc
                have cc := hS.c1
                have hK0 := Lib.hid hK; clear hK
                have hS0 := Lib.hid hS; clear hS
                go_simp
                exact hK0.out _ _ (Reg.Known.mk_val rfl rfl) (fun _ _ h => h) hS0.out
              refine Reg.Steps.zip ?_ ?_
              · refine Reg.step_on rfl (fun u w h => h.plain rfl) ?_
                intro a wi ki hf hd hS hc K hK
                have e140 : a.tmps.getD 140 undef = .slice A N c' := hd.1.plain rfl
                have e142 : a.tmps.getD 142 undef = .int .i64 y0 := hd.2.1.plain rfl
                have e144 : a.tmps.getD 144 undef = .int .i64 y1 := hd.2.2.1.plain rfl
                clear hf hd
                have HS := Lib.hid hS; clear hS
                have hK0 := Lib.hid hK; clear hK hc
                go_simp
                refine (lower_any _ HS.out.tab).mono ?_
                rw [HLW.out]
                rintro e wA ⟨v', rfl, hv, hbA⟩
                exact hK0.out _ _ (Reg.Known.mk_other rfl hv) (fun i u h => known_ints h hbA) (HS.out.step hbA)
              refine Reg.Steps.zip ?_ ?_
              · refine Reg.step_on rfl (fun u w h => h.plain rfl) ?_
                intro a wi ki hf hd hS hc K hK
                have f20 : a.tmps.getD 20 undef = .slice A N c' := hf.same 20 rfl
                clear hf hd hc
                have hK0 := Lib.hid hK; clear hK
                have hS0 := Lib.hid hS; clear hS
                go_simp
                exact hK0.out _ _ (Reg.Known.mk_val rfl rfl) (fun _ _ h => h) hS0.out
              refine Reg.Steps.zip ?_ ?_
              · refine Reg.step_on rfl (fun u w h => h.plain rfl) ?_
                intro a wi ki hf hd hS hc K hK
                have f22 : a.tmps.getD 22 undef = .pointer (some ⟨gb, 0, none⟩) := hf.same 22 rfl
                clear hf hd hc
                have hK0 := Lib.hid hK; clear hK
                have hS0 := Lib.hid hS; clear hS
                go_simp
                exact hK0.out _ _ (Reg.Known.mk_val rfl rfl) (fun _ _ h => h) hS0.out
              refine Reg.Steps.zip ?_ ?_
              · refine Reg.step_on rfl (fun u w h => h.plain rfl) ?_
                intro a wi ki hf hd hS hc K hK
                have e147 : a.tmps.getD 147 undef = .pointer (some ⟨gb, 0, none⟩) := hd.1.plain rfl
                clear hf hd hc
                have cc := hS.c0
                have hK0 := Lib.hid hK; clear hK
                have hS0 := Lib.hid hS; clear hS
                go_simp
                exact hK0.out _ _ (Reg.Known.mk_val rfl rfl) (fun _ _ h => h) hS0.out
              refine Reg.Steps.zip ?_ ?_
              · refine Reg.step_on rfl (fun u w h => h.plain rfl) ?_
                intro a wi ki hf hd hS hc K hK
                have f22 : a.tmps.getD 22 undef = .pointer (some ⟨gb, 0, none⟩) := hf.same 22 rfl
                clear hf hd hc
                have hK0 := Lib.hid hK; clear hK
                have hS0 := Lib.hid hS; clear hS
                go_simp
                exact hK0.out _ _ (Reg.Known.mk_val rfl rfl) (fun _ _ h => h) hS0.out
              refine Reg.Steps.zip ?_ ?_
              · refine Reg.step_on rfl (fun u w h => h.plain rfl) ?_
                intro a wi ki hf hd hS hc K hK
                have e149 : a.tmps.getD 149 undef = .pointer (some ⟨gb, 1, none⟩) := hd.1.plain rfl
                clear hf hd hc
                have cc := hS.c1
                have hK0 := Lib.hid hK; clear hK
                have hS0 := Lib.hid hS; clear hS
                go_simp
                exact hK0.out _ _ (Reg.Known.mk_val rfl rfl) (fun _ _ h => h) hS0.out
              refine Reg.Steps.zip ?_ ?_
              · refine Reg.step_on rfl (fun u w h => h.plain rfl) ?_
                intro a wi ki hf hd hS hc K hK
                have e146 : a.tmps.getD 146 undef = .slice A N c' := hd.1.plain rfl
                have e148 : a.tmps.getD 148 undef = .int .i64 y0 := hd.2.1.plain rfl
                have e150 : a.tmps.getD 150 undef = .int .i64 y1 := hd.2.2.1.plain rfl
                clear hf hd
                have HS := Lib.hid hS; clear hS
                have hK0 := Lib.hid hK; clear hK hc
                go_simp
                refine (refLower_any _ HS.out.tab).mono ?_
                rw [HLW.out]
                rintro e wA ⟨v', rfl, hv, hbA⟩
                exact hK0.out _ _ (Reg.Known.mk_other rfl hv) (fun i u h => known_ints h hbA) (HS.out.step hbA)
              refine Reg.Steps.zip ?_ ?_
              · refine Reg.step_on rfl (fun u w h => h.plain rfl) ?_
                intro a wi ki hf hd hS hc K hK
                have x145 := hd.1.other rfl
                have x151 := hd.2.1.other rfl
                clear hf hd
                have y145 : IntsV wi wi.heap.size (a.tmps.getD 145 undef) lo := x145
                have y151 : IntsV wi wi.heap.size (a.tmps.getD 151 undef) lo := x151
                clear x145 x151
                obtain ⟨A145, c145, e145, h145⟩ := y145
                obtain ⟨A151, c151, e151, h151⟩ := y151
                have H145 := Lib.hid h145; clear h145
                have H151 := Lib.hid h151; clear h151
                have HS := Lib.hid hS; clear hS
                have hK0 := Lib.hid hK; clear hK hc
                go_simp
                refine (ints_any _ ⟨A145, c145, rfl, H145.out⟩ ⟨A151, c151, rfl, H151.out⟩ HLO.out).mono ?_
                rw [intsB_self lo]
                rintro e wA ⟨rfl, hbA⟩
                exact hK0.out _ _ (Reg.Known.mk_val rfl rfl) (fun i u h => known_ints h hbA) (HS.out.step hbA)
              refine Reg.Steps.zip ?_ ?_
              · refine Reg.step_on rfl (fun u w h => h.plain rfl) ?_
                intro a wi ki hf hd hS hc K hK
                have e152 : a.tmps.getD 152 undef = .bool true := hd.1.plain rfl
                clear hf hd hc
                have hK0 := Lib.hid hK; clear hK
                have hS0 := Lib.hid hS; clear hS
                go_simp
                exact hK0.out _ _ (Reg.Known.mk_val rfl rfl) (fun _ _ h => h) hS0.out
              refine Reg.Steps.zip ?_ ?_
              · refine Reg.step_go rfl ?_
                intro a wi ki hf hd hS hc K hK
                have e139 : a.tmps.getD 139 undef = .bool false := hd.1.plain rfl
                have e153 : a.tmps.getD 153 undef = .bool false := hd.2.1.plain rfl
                clear hf hd hc
                have hK0 := Lib.hid hK; clear hK
                have hS0 := Lib.hid hS; clear hS
                go_simp
                exact hK0.out _ _ (Reg.Known.mk_val rfl rfl) (fun _ _ h => h) hS0.out
              exact Reg.Steps.nil
            case finish =>
              intro a w8 hf hd hS
              obtain ⟨u, hu⟩ : ∃ u : Nat → Value, u = fun s => a.tmps.getD s undef := ⟨_, rfl⟩
              have e154 : u 154 = .bool false := by rw [hu]; exact hd.1.plain rfl
              rw [hf.eq, ← hu]
              clear hf hu hd
              have HS8 := Lib.hid hS.b; clear hS
              simp [Reg.filled, e154]
              clear e154
              go_wp2_with fail
              go_roundw
              case rel => exact ⟨q + 1, by omega, by go_num, HS8.out⟩
              case measure => simp [intOf]; omega
          · obtain rfl : q = 3 := by omega
            go_wp2_with fail
            rw [show ((3 : Nat) : Int) = 3 from rfl]
            obtain ⟨wE, hwE⟩ : ∃ wE : World, wE = wr := ⟨_, rfl⟩
            have HBE := Lib.hid (hwE ▸ HB.out : Below w6.heap.size w6 wE)
            rw [← hwE]
            clear HB hwE
            have HTE := Lib.hid (HT6.out.later HBE.out)
            have HZE := Lib.hid (HZ6.out.later HBE.out)
            have BE := Lib.hid (nextB HR6.out HBE.out)
            have HLE := Lib.hid (lies_ints HZE.out)
            clear HT6 HZ6 B6 HR6 HY HYL HBE
            go_loopw [23, 24] (fun v i wr => ∃ (k : Nat) (l2 : List Int), k ≤ nz ∧ i = .int .i64 k ∧ l2.length = k ∧ wr.ownsRow wE.heap.size 3 1 v k (i64s l2) ∧ Below wE.heap.size wE wr) (fun _ i _ => nz - (intOf i).toNat)
            case atStart => exact ⟨0, [], by omega, rfl, rfl, World.ownsRow_nil _ _ _ _, Below.refl _ _⟩
            case round =>
              obtain ⟨k, l2, hk, rfl, hl2, ho, hb'⟩ := hrel
              have HL2 := Lib.hid hl2; clear hl2
              have HO := Lib.hid ho; clear ho
              have hsz := hb'.size
              have HB := Lib.hid hb'; clear hb'
              by_cases hkn : k < nz
              · have hkl : k < zs.length := by rw [HNZ.out]; exact hkn
                obtain ⟨bz, oz, rfl, hbz, cz⟩ := lie_int HLE.out hkl
                have cz2 : wr.cell? ⟨bz, oz + k, none⟩ = some (.int .i64 zs[k]) := by rw [HB.out.cell (p := ⟨bz, oz + k, none⟩) hbz]; exact cz
                have hxr := HZR.out zs[k] (List.getElem_mem hkl)
                clear cz
                generalize zs[k] = x at *
                go_wp2_with fail
                · refine (place_any wr x 1 hxr (by omega) (by omega)).mono ?_
                  rintro e w' ⟨rfl, rfl⟩
                  obtain ⟨y, hy⟩ : ∃ y, place x 1 = y := ⟨_, rfl⟩
                  rw [hy]
                  clear hy
                  have HO2 := Lib.hid (HO.out.alloc (.cells #[.int .i64 y] 3))
                  go_wp2_with (at_builtin; go_must (refine wpList_append_L 24 3 _ 8 Try.underlying24 inf_int rfl rfl _ _ rfl wE.heap.size _ _ _ rfl HO2.out (wr.heap.size + 1) _ 1 1 [.int .i64 y] rfl rfl (lies_new wr [.int .i64 y] 3) ?a2 ?a3 ?a4 ?a5 ?_))
                  case a2 => intro u hu; simp at hu; subst hu; rfl
                  case a3 => omega
                  case a4 => omega
                  case a5 => simp; omega
                  intro v3 w3 ho3 _ hb3
                  have HO3 := Lib.hid ho3; clear ho3
                  have HB3 := Lib.hid ((HB.out.trans ((below_alloc wr (.cells #[.int .i64 y] 3)).mono hsz)).trans hb3); clear hb3
                  go_wp2_with fail
                  go_roundw
                  case rel => exact ⟨k + 1, l2 ++ [y], by omega, by go_num, by rw [List.length_append, HL2.out]; rfl, by simpa [i64s] using HO3.out, HB3.out⟩
                  case measure => simp [intOf]; omega
                · refine (place_any wr x N hxr (by omega) (by omega)).mono ?_
                  rintro e w' ⟨rfl, rfl⟩
                  obtain ⟨y, hy⟩ : ∃ y, place x N = y := ⟨_, rfl⟩
                  rw [hy]
                  clear hy
                  have HO2 := Lib.hid (HO.out.alloc (.cells #[.int .i64 y] 3))
                  go_wp2_with (at_builtin; go_must (refine wpList_append_L 24 3 _ 8 Try.underlying24 inf_int rfl rfl _ _ rfl wE.heap.size _ _ _ rfl HO2.out (wr.heap.size + 1) _ 1 1 [.int .i64 y] rfl rfl (lies_new wr [.int .i64 y] 3) ?b2 ?b3 ?b4 ?b5 ?_))
                  case b2 => intro u hu; simp at hu; subst hu; rfl
                  case b3 => omega
                  case b4 => omega
                  case b5 => simp; omega
                  intro v3 w3 ho3 _ hb3
                  have HO3 := Lib.hid ho3; clear ho3
                  have HB3 := Lib.hid ((HB.out.trans ((below_alloc wr (.cells #[.int .i64 y] 3)).mono hsz)).trans hb3); clear hb3
                  go_wp2_with fail
                  go_roundw
                  case rel => exact ⟨k + 1, l2 ++ [y], by omega, by go_num, by rw [List.length_append, HL2.out]; rfl, by simpa [i64s] using HO3.out, HB3.out⟩
                  case measure => simp [intOf]; omega
              · obtain rfl : k = nz := by omega
                have hl2v : IntsV wr wr.heap.size _ l2 := ints_own2 HO.out
                obtain ⟨A2, c2, rfl, h2⟩ := id hl2v
                rw [HL2.out] at hl2v
                have HL2V := Lib.hid hl2v; clear hl2v h2
                have HTR := Lib.hid (HTE.out.later HB.out)
                have HZR3 := Lib.hid (HZE.out.later HB.out)
                have BR := Lib.hid (nextB BE.out HB.out)
                clear HTE HZE BE HLE HO HB hsz
                go_wp2_with fail
                refine (upper_any wr HTR.out).mono ?_
                obtain ⟨up, hup⟩ : ∃ up, upperT T (bits .and .i64 a 7) (bits .and .i64 b 7) = up := ⟨_, rfl⟩
                have hul : up.length ≤ 1000 := by have := upperT_len T (bits .and .i64 a 7) (bits .and .i64 b 7); rw [HN.out, hup] at this; omega
                rw [hup]
                clear hup
                rintro e w9 ⟨v9, rfl, hv9, hb9⟩
                have HV9 := Lib.hid hv9
                obtain ⟨A9, c9, rfl, h9⟩ := hv9
                clear h9
                have B9 := Lib.hid hb9; clear hb9
                go_wp2_with fail
                obtain ⟨w10, hw10⟩ : ∃ w10 : World, w10 = w9.alloc (.cells #[Value.slice AZ k cZ, Value.slice A2 l2.length c2, Value.slice A9 up.length c9] 24) := ⟨_, rfl⟩
                have b10 : Below w9.heap.size w9 w10 := by rw [hw10]; exact below_alloc _ _
                have hS : Lies w10 w10.heap.size (some ⟨w9.heap.size, 0, none⟩) [Value.slice AZ k cZ, Value.slice A2 l2.length c2, Value.slice A9 up.length c9] := by
                  rw [hw10, World.size_alloc]; exact lies_new w9 [Value.slice AZ k cZ, Value.slice A2 l2.length c2, Value.slice A9 up.length c9] 24
                have hV : ∀ v ∈ [Value.slice AZ k cZ, Value.slice A2 l2.length c2, Value.slice A9 up.length c9], ∃ L : List Int, L.length ≤ 1000 ∧ IntsV w10 w10.heap.size v L := by
                  intro v hv
                  simp only [List.mem_cons, List.not_mem_nil, or_false] at hv
                  rcases hv with rfl | rfl | rfl
                  · exact ⟨zs, by rw [HNZ.out]; omega, (HZR3.out.later B9.out).later b10⟩
                  · exact ⟨l2, by rw [HL2.out]; omega, ((HL2.out.symm ▸ HL2V.out : IntsV wr wr.heap.size (.slice A2 l2.length c2) l2).later B9.out).later b10⟩
                  · exact ⟨up, hul, HV9.out.later b10⟩
                obtain ⟨us, hus⟩ : ∃ us, us = [Value.slice AZ k cZ, Value.slice A2 l2.length c2, Value.slice A9 up.length c9] := ⟨_, rfl⟩
                have husl : us.length = 3 := by rw [hus]; rfl
                rw [← hus] at hS hV
                rw [← hw10]
                have HS10 := Lib.hid hS; clear hS
                have HV10 := Lib.hid hV; clear hV
                have HUSL := Lib.hid husl; clear husl
                have HT10 := Lib.hid ((HTR.out.later B9.out).later b10)
                have B10 := Lib.hid (nextB (nextB BR.out B9.out) b10)
                obtain ⟨gs, hgs⟩ : ∃ gs, w9.heap.size = gs := ⟨_, rfl⟩
                rw [hgs] at HS10 ⊢
                clear hus hw10 b10 hgs HTR BR B9 HZR3 HL2V HV9 hul
                go_loopw [183] (fun i wr => ∃ p : Nat, p ≤ 3 ∧ i = .int .i64 p ∧ Below w10.heap.size w10 wr) (fun i _ => 3 - (intOf i).toNat)
                case atStart => exact ⟨0, by omega, rfl, Below.refl _ _⟩
                case round =>
                  obtain ⟨p, hp, rfl, hb'⟩ := hrel
                  have HB := Lib.hid hb'; clear hb'
                  by_cases hp3 : p < 3
                  · have hpu : p < us.length := by rw [HUSL.out]; exact hp3
                    obtain ⟨bS, oS, hSe, hbS, hcS⟩ := HS10.out.cell (k := p) hpu
                    injection hSe with hSe; injection hSe with hs1 hs2 _
                    subst hs1 hs2
                    rw [Nat.zero_add] at hcS
                    have k1 : wr.cell? ⟨gs, p, none⟩ = some us[p] := by rw [HB.out.cell (p := ⟨gs, p, none⟩) hbS]; exact hcS
                    obtain ⟨L, hL1, hL⟩ := HV10.out us[p] (List.getElem_mem hpu)
                    generalize us[p] = uv at *
                    have HLV := Lib.hid (hL.later HB.out)
                    have HL1 := Lib.hid hL1
                    have HTW := Lib.hid (HT10.out.later HB.out)
                    have BW := Lib.hid (nextB B10.out HB.out)
                    clear hL hcS hbS hpu hL1
                    obtain ⟨AU, nU, cU, rfl⟩ : ∃ A n c, uv = .slice A n c := by
                      obtain ⟨A, c, e, _⟩ := HLV.out
                      exact ⟨A, _, c, e⟩
                    have hans1 : ∃ (d : Int) (s : Bool), ansZ (leastT T L) = .tuple #[.int .i64 d, .bool s] := ⟨_, _, rfl⟩
                    have hans2 : ∃ (d : Int) (s : Bool), ansZ (greatestT T L) = .tuple #[.int .i64 d, .bool s] := ⟨_, _, rfl⟩
                    obtain ⟨d1', s1', ha1⟩ := hans1
                    obtain ⟨d2', s2', ha2⟩ := hans2
                    have HA1 := Lib.hid ha1; clear ha1
                    have HA2 := Lib.hid ha2; clear ha2
                    have e1 : (d1' != d1') = false := by simp
                    have e2 : (s1' != s1') = false := by simp
                    have e3 : (d2' != d2') = false := by simp
                    have e4 : (s2' != s2') = false := by simp
                    go_wp2_with fail
                    refine (least_any wr HTW.out HLV.out HL1.out).mono ?_
                    rintro e wA ⟨rfl, hbA⟩
                    rw [HA1.out]
                    have BA := Lib.hid hbA; clear hbA
                    go_wp2_with fail
                    refine (refLeast_any wA (HTW.out.later BA.out) (HLV.out.later BA.out) HL1.out).mono ?_
                    rintro e wB ⟨rfl, hbB⟩
                    rw [HA1.out]
                    have BB := Lib.hid (nextB BA.out hbB); clear hbB BA
                    go_wp2_with fail
                    refine (greatest_any wB (HTW.out.later BB.out) (HLV.out.later BB.out) HL1.out).mono ?_
                    rintro e wC ⟨rfl, hbC⟩
                    rw [HA2.out]
                    have BC := Lib.hid (nextB BB.out hbC); clear hbC BB
                    go_wp2_with fail
                    refine (refGreatest_any wC (HTW.out.later BC.out) (HLV.out.later BC.out) HL1.out).mono ?_
                    rintro e wD ⟨rfl, hbD⟩
                    rw [HA2.out]
                    have BD := Lib.hid (nextB HB.out (nextB BC.out hbD)); clear hbD BC
                    go_wp2_with fail
                    go_roundw
                    case rel => exact ⟨p + 1, by omega, by go_num, BD.out⟩
                    case measure => simp [intOf]; omega
                  · obtain rfl : p = 3 := by omega
                    have BF := Lib.hid (nextB B10.out HB.out)
                    go_wp2_with fail
                    go_roundw
                    case rel => exact ⟨j + 1, by omega, by go_num, BF.out⟩
                    case measure => simp [intOf]; omega
      · obtain rfl : j = 3 := by omega
        go_wp2_with fail
        go_ret
        exact ⟨rfl, nextB B5.out HB.out⟩

set_option maxRecDepth 100000 in
theorem lifted (os : Os) (started : os.Started) (H : Type) (enc : TypeId × Value → H) :
    ReturnsInHanded {} Try.checked os 3 .any (Rows.orderTellsSpec.pre6 enc Try.prog Try.f3 Rows.orderTellsRow.domain false) (Rows.orderTellsSpec.post enc Try.prog Try.f3 false true false false) := by
  refine returnsInHanded_of_change (C := Try.checked) ownKnobs started (by kernel_rfl) Try.func3
    (ChangeSpec.witness6 (enc := enc) (C := Try.checked) false ⟨#[], #[.slice none 0 0, .int .u8 0, .int .u8 0, .slice none 0 0, .int .i64 0, .int .i64 0, .slice none 0 0, .int .u8 0], []⟩ 8 (by kernel_rfl) (by kernel_rfl) (by kernel_rfl) (by kernel_rfl)) ?_
  intro W base args ds gs before hval hW _ _
  refine law_contract rfl rfl (fun ds h => by match ds, h with | [d1, d2, d3, d4, d5, d6, d7, d8], _ => rfl) (by decide +kernel) hW ?_
  obtain ⟨p, q, hA0, _⟩ := hW
  have hA : DataW.TrodAll enc Try.prog W 0 (fun _ => true) true Try.f3.params.toList args.toList ds p := hA0
  have hval' : ∀ (j : Nat) t v, Try.f3.params[j]? = some t → args[j]? = some v → Value.okWide Try.prog W .any base t v := hval
  rw [Try.params3] at hA hval'
  obtain ⟨v0, vs0, d0, ds0, p0, q0, hargs, rfl, rfl, h0, r0⟩ := trodAll_cons hA
  obtain ⟨v1, vs1, d1, ds1, p1, q1, rfl, rfl, rfl, h1, r1⟩ := trodAll_cons r0
  obtain ⟨v2, vs2, d2, ds2, p2, q2, rfl, rfl, rfl, h2, r2⟩ := trodAll_cons r1
  obtain ⟨v3, vs3, d3, ds3, p3, q3, rfl, rfl, rfl, h3, r3⟩ := trodAll_cons r2
  obtain ⟨v4, vs4, d4, ds4, p4, q4, rfl, rfl, rfl, h4, r4⟩ := trodAll_cons r3
  obtain ⟨v5, vs5, d5, ds5, p5, q5, rfl, rfl, rfl, h5, r5⟩ := trodAll_cons r4
  obtain ⟨v6, vs6, d6, ds6, p6, q6, rfl, rfl, rfl, h6, r6⟩ := trodAll_cons r5
  obtain ⟨v7, vs7, d7, ds7, p7, q7, rfl, rfl, rfl, h7, r7⟩ := trodAll_cons r6
  obtain ⟨rfl, rfl, rfl⟩ := trodAll_nil r7
  obtain rfl : args = #[v0, v1, v2, v3, v4, v5, v6, v7] := by cases args; simp_all
  obtain ⟨T0, hT⟩ := open_table (hval' 0 _ v0 rfl rfl) h0
  obtain ⟨a1, rfl, rfl, rfl, w1⟩ := open_int Try.underlying5 (hval' 1 _ v1 rfl rfl) h1
  obtain ⟨a2, rfl, rfl, rfl, w2⟩ := open_int Try.underlying5 (hval' 2 _ v2 rfl rfl) h2
  obtain ⟨l, hl⟩ := open_nums (hval' 3 _ v3 rfl rfl) h3
  obtain ⟨a4, rfl, rfl, rfl, w4⟩ := open_int Try.underlying3 (hval' 4 _ v4 rfl rfl) h4
  obtain ⟨a5, rfl, rfl, rfl, w5⟩ := open_int Try.underlying3 (hval' 5 _ v5 rfl rfl) h5
  obtain ⟨zs, hz, hzm, hzr⟩ := open_list (hval' 6 _ v6 rfl rfl) h6
  obtain ⟨a7, rfl, rfl, rfl, w7⟩ := open_int Try.underlying5 (hval' 7 _ v7 rfl rfl) h7
  have b1 : 0 ≤ a1 ∧ a1 ≤ 255 := by simpa [Lit.wf, IntKind.min, IntKind.max, IntKind.signed, IntKind.bits] using w1
  have b2 : 0 ≤ a2 ∧ a2 ≤ 255 := by simpa [Lit.wf, IntKind.min, IntKind.max, IntKind.signed, IntKind.bits] using w2
  have b4 : -9223372036854775808 ≤ a4 ∧ a4 ≤ 9223372036854775807 := by simpa [Lit.wf, IntKind.min, IntKind.max, IntKind.signed, IntKind.bits] using w4
  have b5 : -9223372036854775808 ≤ a5 ∧ a5 ≤ 9223372036854775807 := by simpa [Lit.wf, IntKind.min, IntKind.max, IntKind.signed, IntKind.bits] using w5
  have b7 : 0 ≤ a7 ∧ a7 ≤ 255 := by simpa [Lit.wf, IntKind.min, IntKind.max, IntKind.signed, IntKind.bits] using w7
  obtain ⟨n, rfl⟩ : ∃ n : Nat, a1 = n := ⟨a1.toNat, by omega⟩
  obtain ⟨bs, rfl⟩ : ∃ n : Nat, a2 = n := ⟨a2.toNat, by omega⟩
  obtain ⟨cut, rfl⟩ : ∃ n : Nat, a7 = n := ⟨a7.toNat, by omega⟩
  exact walk n bs cut a4 a5 W (by omega) (by omega) (by omega) b4 b5 hT hl hz hzm hzr

theorem proved : Rows.OrderTellsSaid :=
  OpenClaim.holds_of_wide 3 Try.f3 rfl rfl rfl rfl rfl rfl rfl ⟨rfl, rfl, rfl, rfl, rfl⟩ rfl rfl rfl rfl rfl (by kernel_rfl) Try.func3 (by kernel_rfl)
    (of_decide_eq_true (by kernel_rfl)) (by unfold Func.isWrapper; first | (rw [if_pos (by decide +kernel)]; kernel_rfl) | (rw [if_neg (by decide +kernel)]; exact ⟨rfl, rfl⟩))
    (fun os started H enc _ => lifted os started H enc)

end Go.Proofs.Ytopjhgaamjgcnaa.orderTells
