/- The reference's lattices. -/
import Derived.Test.YtidjohhnggpibaaMeth
import Derived.Deep.CutRange
import Derived.Deep.DeepCutAuto
namespace Go.Proofs.Ytidjohhnggpibaa
open Go.RowKit

set_option maxHeartbeats 1000000 in
theorem refFlows_any {B : Nat} {v : Value} {T : List (List Bool)} (x y : Int) (w : World) (h : TabV w B v T) :
    Calls Try.prog 19 #[v, .int .i64 x, .int .i64 y] w fun e w' => e = .returned (.bool (flowsT T x y)) ∧ w = w' := by
  have q1 := in_any (x := x) w h
  have q2 := in_any (x := y) w h
  unfold flowsT
  obtain ⟨s1, hs1⟩ : ∃ s, inT T x = s := ⟨_, rfl⟩
  obtain ⟨s2, hs2⟩ : ∃ s, inT T y = s := ⟨_, rfl⟩
  rw [hs1] at q1
  rw [hs2] at q2
  rw [hs1, hs2]
  have Q1 := Lib.hid q1; clear q1
  have Q2 := Lib.hid q2; clear q2
  obtain ⟨A0, n0, c0, rfl⟩ : ∃ A n c, v = .slice A n c := by
    obtain ⟨A, c, rs, e, _⟩ := h
    exact ⟨A, _, c, e⟩
  cases s1 with
  | false =>
    clear h hs1 hs2 Q2
    go_enter Try.func19, Try.ntmps19
    go_wp2_with fail
    refine Q1.out.mono ?_
    rintro e w' ⟨rfl, rfl⟩
    go_wp2_with fail
    go_ret
    exact ⟨rfl, rfl⟩
  | true =>
  cases s2 with
  | false =>
    clear h hs1 hs2
    go_enter Try.func19, Try.ntmps19
    go_wp2_with fail
    refine Q1.out.mono ?_
    rintro e w' ⟨rfl, rfl⟩
    go_wp2_with fail
    refine Q2.out.mono ?_
    rintro e w' ⟨rfl, rfl⟩
    go_wp2_with fail
    go_ret
    exact ⟨rfl, rfl⟩
  | true =>
  have hs : sqB T = true := by
    unfold inT at hs1
    cases hq : sqB T with
    | true => rfl
    | false => rw [hq] at hs1; cases hs1
  have o1 : okL T.length x = true := by unfold inT at hs1; rw [hs] at hs1; exact hs1
  have o2 : okL T.length y = true := by unfold inT at hs2; rw [hs] at hs2; exact hs2
  obtain ⟨h1, h2, b, off, c, G, O, C, hv, hgr⟩ := grid_of h hs
  injection hv with e1 e2 e3
  subst e1 e2 e3
  obtain ⟨a, rfl⟩ : ∃ a : Nat, x = a := ⟨x.toNat, by have := (okL_iff.1 o1).1; omega⟩
  obtain ⟨d, rfl⟩ : ∃ d : Nat, y = d := ⟨y.toNat, by have := (okL_iff.1 o2).1; omega⟩
  have ha : a < T.length := by have := (okL_iff.1 o1).2; omega
  have hd : d < T.length := by have := (okL_iff.1 o2).2; omega
  have t1 := hgr.top a ha
  have t2 := hgr.cel a d ha hd
  rw [Int.toNat_natCast, Int.toNat_natCast]
  clear hgr h hs o1 o2 hs1 hs2
  generalize atT T a d = z at *
  generalize T.length = n at *
  generalize G a = ga at *
  generalize O a = oa at *
  generalize C a = ca at *
  go_enter Try.func19, Try.ntmps19
  go_wp2_with fail
  refine Q1.out.mono ?_
  rintro e w' ⟨rfl, rfl⟩
  go_wp2_with fail
  refine Q2.out.mono ?_
  rintro e w' ⟨rfl, rfl⟩
  go_wp2_with fail
  go_ret
  exact ⟨rfl, rfl⟩

/-- A call that answers a number. -/
def Num (w : World) (x : Int) (e : Ending) (w' : World) : Prop := e = .returned (.int .i64 x) ∧ Below w.heap.size w w'

set_option maxHeartbeats 1000000 in
theorem refJoin_any {v : Value} {T : List (List Bool)} (x y : Int) (w : World) (h : TabV w w.heap.size v T) (hm : T.length ≤ 1000) :
    Calls Try.prog 21 #[v, .int .i64 x, .int .i64 y] w (Num w (joinZ T x y)) := by
  obtain ⟨A0, n0, c0, rfl⟩ : ∃ A n c, v = .slice A n c := by
    obtain ⟨A, c, rs, e, _⟩ := h
    exact ⟨A, _, c, e⟩
  have HT := Lib.hid h; clear h
  have HLE := Lib.hid (show (upperT T x y).length ≤ 1000 from Nat.le_trans (upperT_len T x y) hm); clear hm
  go_enter Try.func21, Try.ntmps21
  go_wp2_with fail
  refine (refUpper_any (a := x) (b := y) w HT.out).mono ?_
  rintro e w1 ⟨v1, rfl, hv, hb⟩
  have HV := Lib.hid hv
  obtain ⟨A1, c1, rfl, _⟩ := hv
  have HB := Lib.hid hb; clear hb
  have HT1 := Lib.hid (HT.out.later HB.out)
  go_wp2_with fail
  refine (refLeast_any w1 HT1.out HV.out HLE.out).mono ?_
  rintro e w2 ⟨rfl, hb2⟩
  have HB2 := Lib.hid (nextB HB.out hb2); clear hb2
  obtain ⟨r, s, hrs, his, hr⟩ := tup_two (leastT T (upperT T x y))
  rw [hrs]
  have HZ := Lib.hid (show joinZ T x y = if s then (r : Int) else -1 by
    unfold joinZ
    cases ho : leastT T (upperT T x y) with
    | none => rw [ho] at his; subst his; rfl
    | some c => rw [ho] at his hr; subst his; simp at hr; subst hr; rfl)
  clear hrs his hr
  cases s with
  | false =>
    go_wp2_with fail
    go_ret
    exact ⟨by rw [HZ.out]; rfl, HB2.out⟩
  | true =>
    go_wp2_with fail
    go_ret
    exact ⟨by rw [HZ.out]; rfl, HB2.out⟩

set_option maxHeartbeats 1000000 in
theorem refMeet_any {v : Value} {T : List (List Bool)} (x y : Int) (w : World) (h : TabV w w.heap.size v T) (hm : T.length ≤ 1000) :
    Calls Try.prog 23 #[v, .int .i64 x, .int .i64 y] w (Num w (meetZ T x y)) := by
  obtain ⟨A0, n0, c0, rfl⟩ : ∃ A n c, v = .slice A n c := by
    obtain ⟨A, c, rs, e, _⟩ := h
    exact ⟨A, _, c, e⟩
  have HT := Lib.hid h; clear h
  have HLE := Lib.hid (show (lowerT T x y).length ≤ 1000 from Nat.le_trans (lowerT_len T x y) hm); clear hm
  go_enter Try.func23, Try.ntmps23
  go_wp2_with fail
  refine (refLower_any (a := x) (b := y) w HT.out).mono ?_
  rintro e w1 ⟨v1, rfl, hv, hb⟩
  have HV := Lib.hid hv
  obtain ⟨A1, c1, rfl, _⟩ := hv
  have HB := Lib.hid hb; clear hb
  have HT1 := Lib.hid (HT.out.later HB.out)
  go_wp2_with fail
  refine (refGreatest_any w1 HT1.out HV.out HLE.out).mono ?_
  rintro e w2 ⟨rfl, hb2⟩
  have HB2 := Lib.hid (nextB HB.out hb2); clear hb2
  obtain ⟨r, s, hrs, his, hr⟩ := tup_two (greatestT T (lowerT T x y))
  rw [hrs]
  have HZ := Lib.hid (show meetZ T x y = if s then (r : Int) else -1 by
    unfold meetZ
    cases ho : greatestT T (lowerT T x y) with
    | none => rw [ho] at his; subst his; rfl
    | some c => rw [ho] at his hr; subst his; simp at hr; subst hr; rfl)
  clear hrs his hr
  cases s with
  | false =>
    go_wp2_with fail
    go_ret
    exact ⟨by rw [HZ.out]; rfl, HB2.out⟩
  | true =>
    go_wp2_with fail
    go_ret
    exact ⟨by rw [HZ.out]; rfl, HB2.out⟩

theorem range_next (k : Nat) : List.range (k + 1) = List.range k ++ [k] := List.range_succ

set_option maxHeartbeats 1000000 in
theorem labels_any {A : Option Addr} {n c : Nat} (w : World) (hm : n ≤ 1000) :
    Calls Try.prog 49 #[.slice A n c] w (Made w (nats (List.range n))) := by
  go_enter Try.func49, Try.ntmps49
  go_wp2_with fail
  go_loopw [3, 4] (fun v i wr => ∃ k : Nat, k ≤ n ∧ i = .int .i64 k ∧ wr.ownsRow w.heap.size 3 1 v k (i64s (nats (List.range k))) ∧ Below w.heap.size w wr) (fun _ i _ => n - (intOf i).toNat)
  case atStart => exact ⟨0, by omega, rfl, World.ownsRow_nil _ _ _ _, Below.refl _ _⟩
  case round =>
    obtain ⟨k, hk, rfl, ho, hb⟩ := hrel
    have hsz := hb.size
    have HO := Lib.hid ho; clear ho
    have HB := Lib.hid hb; clear hb
    by_cases hkn : k < n
    · have HO2 := Lib.hid (HO.out.alloc (.cells #[.int .i64 (k : Int)] 3))
      have HR := Lib.hid (range_next k)
      go_wp2_with (at_builtin; go_must (refine wpList_append_L 41 3 _ 8 Try.underlying41 inf_int rfl rfl _ _ rfl w.heap.size _ _ _ rfl HO2.out (wr.heap.size + 1) _ 1 1 [.int .i64 (k : Int)] rfl rfl (lies_new wr [.int .i64 (k : Int)] 3) ?c2 ?c3 ?c4 ?c5 ?_))
      case c2 => intro u hu; simp at hu; subst hu; rfl
      case c3 => omega
      case c4 => omega
      case c5 => simp; omega
      intro v3 w3 ho3 _ hb3
      have HO3 := Lib.hid ho3; clear ho3
      have HB3 := Lib.hid ((HB.out.trans ((below_alloc wr (.cells #[.int .i64 (k : Int)] 3)).mono hsz)).trans hb3); clear hb3
      go_wp2_with fail
      go_roundw
      case rel => exact ⟨k + 1, by omega, by go_num, by rw [HR.out, i64s_one]; exact HO3.out, HB3.out⟩
      case measure => simp [intOf]; omega
    · obtain rfl : k = n := by omega
      go_wp2_with fail
      go_ret
      exact ⟨_, rfl, ints_own HO.out, HB.out⟩

set_option maxHeartbeats 1000000 in
theorem refBottom_any {v : Value} {T : List (List Bool)} (w : World) (h : TabV w w.heap.size v T) (hm : T.length ≤ 1000) :
    Calls Try.prog 15 #[v] w (Num w (botT T : Nat)) := by
  obtain ⟨A0, n0, c0, rfl, hn⟩ : ∃ A n c, v = .slice A n c ∧ T.length = n := by
    obtain ⟨A, c, rs, e, hT, _⟩ := h
    exact ⟨A, _, c, e, by rw [← hT]; simp [rowsOf]⟩
  have HT := Lib.hid h; clear h
  have HN := Lib.hid hn
  have hn0 : n0 ≤ 1000 := by omega
  clear hn hm
  go_enter Try.func15, Try.ntmps15
  go_wp2_with fail
  refine (labels_any w hn0).mono ?_
  rintro e w1 ⟨v1, rfl, hv, hb⟩
  have HV := Lib.hid hv
  obtain ⟨A1, c1, rfl, _⟩ := hv
  have HB := Lib.hid hb; clear hb
  have HT1 := Lib.hid (HT.out.later HB.out)
  go_wp2_with fail
  refine (refLeast_any w1 HT1.out HV.out (by rw [nats_length, List.length_range]; exact hn0)).mono ?_
  rintro e w2 ⟨rfl, hb2⟩
  have HB2 := Lib.hid (nextB HB.out hb2); clear hb2
  obtain ⟨r, s, hrs, his, hr⟩ := tup_two (leastT T (nats (List.range n0)))
  rw [hrs]
  have HZ := Lib.hid (show botT T = r by unfold botT; rw [HN.out]; exact hr)
  clear hrs his hr
  go_wp2_with fail
  go_ret
  exact ⟨by rw [HZ.out]; rfl, HB2.out⟩

set_option maxHeartbeats 1000000 in
theorem refTop_any {v : Value} {T : List (List Bool)} (w : World) (h : TabV w w.heap.size v T) (hm : T.length ≤ 1000) :
    Calls Try.prog 17 #[v] w (Num w (topT T : Nat)) := by
  obtain ⟨A0, n0, c0, rfl, hn⟩ : ∃ A n c, v = .slice A n c ∧ T.length = n := by
    obtain ⟨A, c, rs, e, hT, _⟩ := h
    exact ⟨A, _, c, e, by rw [← hT]; simp [rowsOf]⟩
  have HT := Lib.hid h; clear h
  have HN := Lib.hid hn
  have hn0 : n0 ≤ 1000 := by omega
  clear hn hm
  go_enter Try.func17, Try.ntmps17
  go_wp2_with fail
  refine (labels_any w hn0).mono ?_
  rintro e w1 ⟨v1, rfl, hv, hb⟩
  have HV := Lib.hid hv
  obtain ⟨A1, c1, rfl, _⟩ := hv
  have HB := Lib.hid hb; clear hb
  have HT1 := Lib.hid (HT.out.later HB.out)
  go_wp2_with fail
  refine (refGreatest_any w1 HT1.out HV.out (by rw [nats_length, List.length_range]; exact hn0)).mono ?_
  rintro e w2 ⟨rfl, hb2⟩
  have HB2 := Lib.hid (nextB HB.out hb2); clear hb2
  obtain ⟨r, s, hrs, his, hr⟩ := tup_two (greatestT T (nats (List.range n0)))
  rw [hrs]
  have HZ := Lib.hid (show topT T = r by unfold topT; rw [HN.out]; exact hr)
  clear hrs his hr
  go_wp2_with fail
  go_ret
  exact ⟨by rw [HZ.out]; rfl, HB2.out⟩

set_option maxHeartbeats 2000000 in
theorem refBelow_any {v : Value} {T : List (List Bool)} (a : Int) (w : World) (h : TabV w w.heap.size v T) (hm : T.length ≤ 1000) :
    Calls Try.prog 26 #[v, .int .i64 a] w (Made w (nats (belowT T a))) := by
  obtain ⟨A0, n, c0, rfl, hn⟩ : ∃ A n c, v = .slice A n c ∧ T.length = n := by
    obtain ⟨A, c, rs, e, hT, _⟩ := h
    exact ⟨A, _, c, e, by rw [← hT]; simp [rowsOf]⟩
  have HT := Lib.hid h; clear h
  have HN := Lib.hid hn
  have hn0 : n ≤ 1000 := by omega
  clear hn hm
  go_enter Try.func26, Try.ntmps26
  go_wp2_with fail
  go_loopw [5, 6] (fun v i wr => ∃ k : Nat, k ≤ n ∧ i = .int .i64 k ∧ wr.ownsRow w.heap.size 3 1 v (belowK T k a).length (i64s (nats (belowK T k a))) ∧ Below w.heap.size w wr) (fun _ i _ => n - (intOf i).toNat)
  case atStart => exact ⟨0, by omega, rfl, World.ownsRow_nil _ _ _ _, Below.refl _ _⟩
  case round =>
    obtain ⟨k, hk, rfl, ho, hb⟩ := hrel
    have hsz := hb.size
    have HO := Lib.hid ho; clear ho
    have HB := Lib.hid hb; clear hb
    have hln := belowK_len T k a
    by_cases hkn : k < n
    · have hq := refFlows_any (k : Int) a wr (HT.out.later HB.out)
      cases hz : flowsT T k a with
      | false =>
        have HE := Lib.hid (belowK_no hz)
        rw [hz] at hq
        have Q := Lib.hid hq; clear hq hz hln
        go_wp2_with fail
        refine Q.out.mono ?_
        rintro e w' ⟨rfl, rfl⟩
        go_wp2_with fail
        go_roundw
        case rel => exact ⟨k + 1, by omega, by go_num, by rw [HE.out]; exact HO.out, HB.out⟩
        case measure => simp [intOf]; omega
      | true =>
        have HE := Lib.hid (belowK_yes hz)
        rw [hz] at hq
        have Q := Lib.hid hq; clear hq hz
        obtain ⟨m, hm⟩ : ∃ m, (belowK T k a).length = m := ⟨_, rfl⟩
        rw [hm] at hln HO
        have HLN := Lib.hid hm; clear hm
        have HO2 := Lib.hid (HO.out.alloc (.cells #[.int .i64 (k : Int)] 3))
        go_wp2_with fail
        refine Q.out.mono ?_
        rintro e w' ⟨rfl, rfl⟩
        go_wp2_with (at_builtin; go_must (refine wpList_append_L 41 3 _ 8 Try.underlying41 inf_int rfl rfl _ _ rfl w.heap.size _ _ _ rfl HO2.out (wr.heap.size + 1) _ 1 1 [.int .i64 (k : Int)] rfl rfl (lies_new wr [.int .i64 (k : Int)] 3) ?c2 ?c3 ?c4 ?c5 ?_))
        case c2 => intro u hu; simp at hu; subst hu; rfl
        case c3 => omega
        case c4 => omega
        case c5 => simp; omega
        intro v3 w3 ho3 _ hb3
        have HO3 := Lib.hid ho3; clear ho3
        have HB3 := Lib.hid ((HB.out.trans ((below_alloc wr (.cells #[.int .i64 (k : Int)] 3)).mono hsz)).trans hb3); clear hb3
        have HLE := Lib.hid (show (belowK T (k + 1) a).length = m + 1 by rw [HE.out, List.length_append, List.length_singleton]; have := HLN.out; omega)
        go_wp2_with fail
        go_roundw
        case rel => exact ⟨k + 1, by omega, by go_num, by rw [HLE.out, HE.out, i64s_one]; exact HO3.out, HB3.out⟩
        case measure => simp [intOf]; omega
    · obtain rfl : k = n := by omega
      have HE := Lib.hid (show belowT T a = belowK T k a by unfold belowT belowK; rw [HN.out])
      clear hln
      go_wp2_with fail
      go_ret
      exact ⟨_, rfl, by rw [HE.out]; exact ints_own HO.out, HB.out⟩

theorem pairs_no {n a b : Nat} {Z : Nat → Nat → Bool} (ha : a < n) (hb : b < n) (h : ((jnO n Z a b).isSome && (jnO n (flipZ Z) a b).isSome) = false) : pairsB n Z = false := allB_no ha (allB_no hb h)

set_option maxHeartbeats 4000000 in
theorem refLattice_any {v : Value} {T : List (List Bool)} (w : World) (h : TabV w w.heap.size v T) :
    Calls Try.prog 12 #[v] w fun e w' => e = .returned (.bool (latB T)) ∧ Below w.heap.size w w' := by
  have q2 := refRefl_any w h
  have q3 := refAnti_any w h
  have q4 := refTrans_any w h
  obtain ⟨res, hres⟩ : ∃ r, latB T = r := ⟨_, rfl⟩
  obtain ⟨s2, hs2⟩ : ∃ s, reflB T = s := ⟨_, rfl⟩
  obtain ⟨s3, hs3⟩ : ∃ s, antiB T = s := ⟨_, rfl⟩
  obtain ⟨s4, hs4⟩ : ∃ s, transB T = s := ⟨_, rfl⟩
  have HL := Lib.hid (show res = (s2 && s3 && s4 && pairsB T.length (atT T)) by rw [← hres, ← hs2, ← hs3, ← hs4]; rfl)
  rw [hres]
  rw [hs2] at q2
  rw [hs3] at q3
  rw [hs4] at q4
  have Q2 := Lib.hid q2; clear q2
  have Q3 := Lib.hid q3; clear q3
  have Q4 := Lib.hid q4; clear q4
  have HR2 := Lib.hid hs2; clear hs2 hs3 hs4 hres
  obtain ⟨A0, n, c0, rfl, hn⟩ : ∃ A n c, v = .slice A n c ∧ T.length = n := by
    obtain ⟨A, c, rs, e, hT, _⟩ := h
    exact ⟨A, _, c, e, by rw [← hT]; simp [rowsOf]⟩
  have HT := Lib.hid h; clear h
  have HN := Lib.hid hn; clear hn
  cases s2 with
  | false =>
    obtain rfl : res = false := HL.out.trans rfl
    go_enter Try.func12, Try.ntmps12
    go_wp2_with fail
    refine Q2.out.mono ?_
    rintro e w' ⟨rfl, rfl⟩
    go_wp2_with fail
    go_ret
    exact ⟨rfl, Below.refl _ _⟩
  | true =>
  cases s3 with
  | false =>
    obtain rfl : res = false := HL.out.trans rfl
    go_enter Try.func12, Try.ntmps12
    go_wp2_with fail
    refine Q2.out.mono ?_
    rintro e w' ⟨rfl, rfl⟩
    go_wp2_with fail
    refine Q3.out.mono ?_
    rintro e w' ⟨rfl, rfl⟩
    go_wp2_with fail
    go_ret
    exact ⟨rfl, Below.refl _ _⟩
  | true =>
  cases s4 with
  | false =>
    obtain rfl : res = false := HL.out.trans rfl
    go_enter Try.func12, Try.ntmps12
    go_wp2_with fail
    refine Q2.out.mono ?_
    rintro e w' ⟨rfl, rfl⟩
    go_wp2_with fail
    refine Q3.out.mono ?_
    rintro e w' ⟨rfl, rfl⟩
    go_wp2_with fail
    refine Q4.out.mono ?_
    rintro e w' ⟨rfl, rfl⟩
    go_wp2_with fail
    go_ret
    exact ⟨rfl, Below.refl _ _⟩
  | true =>
  have HS := Lib.hid (reflB_iff.1 HR2.out).1
  obtain ⟨h1, h2⟩ : 1 ≤ n ∧ n ≤ 16 := by have := sqB_iff.1 HS.out; have := HN.out; omega
  have HP := Lib.hid (show res = pairsB n (atT T) by have := HL.out; rw [HN.out] at this; exact this.trans (Bool.true_and _))
  clear HL
  go_enter Try.func12, Try.ntmps12
  go_wp2_with fail
  refine Q2.out.mono ?_
  rintro e w' ⟨rfl, rfl⟩
  go_wp2_with fail
  refine Q3.out.mono ?_
  rintro e w' ⟨rfl, rfl⟩
  go_wp2_with fail
  refine Q4.out.mono ?_
  rintro e w' ⟨rfl, rfl⟩
  go_wp2_with fail
  go_loopw [3] (fun i wr => ∃ k : Nat, k ≤ n ∧ i = .int .i64 k ∧ (∀ a, a < k → ∀ b, b < n → ((jnO n (atT T) a b).isSome && (jnO n (flipZ (atT T)) a b).isSome) = true) ∧ Below w.heap.size w wr) (fun i _ => n - (intOf i).toNat)
  case atStart => exact ⟨0, by omega, rfl, fun _ h => by omega, Below.refl _ _⟩
  case round =>
    obtain ⟨k, hk, rfl, hall, hb⟩ := hrel
    have HAL := Lib.hid hall; clear hall
    have HB := Lib.hid hb; clear hb
    by_cases hkn : k < n
    · go_wp2_with fail
      obtain ⟨w1, hw1⟩ : ∃ w1 : World, w1 = wr := ⟨_, rfl⟩
      have HB1 := Lib.hid (hw1 ▸ HB.out : Below w.heap.size w w1)
      rw [← hw1]
      clear HB hw1
      go_loopw [4] (fun i wr => ∃ j : Nat, j ≤ n ∧ i = .int .i64 j ∧ (∀ b, b < j → ((jnO n (atT T) k b).isSome && (jnO n (flipZ (atT T)) k b).isSome) = true) ∧ Below w.heap.size w wr) (fun i _ => n - (intOf i).toNat)
      case atStart => exact ⟨0, by omega, rfl, fun _ h => by omega, HB1.out⟩
      case round =>
        clear HB1
        obtain ⟨j, hj, rfl, hrow, hb⟩ := hrel
        have HRW := Lib.hid hrow; clear hrow
        have HB := Lib.hid hb; clear hb
        by_cases hjn : j < n
        · have HTR := Lib.hid (HT.out.later HB.out)
          have HJE := Lib.hid (join_eq HS.out (a := k) (b := j) (by rw [HN.out]; exact hkn) (by rw [HN.out]; exact hjn))
          have HME := Lib.hid (meet_eq HS.out (a := k) (b := j) (by rw [HN.out]; exact hkn) (by rw [HN.out]; exact hjn))
          go_wp2_with fail
          refine (refUpper_any (a := (k : Int)) (b := (j : Int)) wr HTR.out).mono ?_
          rintro e w2 ⟨v1, rfl, hv, hb⟩
          have HV := Lib.hid hv
          obtain ⟨A1, c1, rfl, _⟩ := hv
          have HB2 := Lib.hid (nextB HB.out hb); clear hb
          have HT2 := Lib.hid (HT.out.later HB2.out)
          go_wp2_with fail
          refine (refLeast_any w2 HT2.out HV.out (Nat.le_trans (upperT_len T _ _) (by rw [HN.out]; omega))).mono ?_
          rintro e w3 ⟨rfl, hb⟩
          rw [HJE.out, HN.out]
          obtain ⟨r1, s1, hrs1, his1, _⟩ := tup_two (jnO n (atT T) k j)
          rw [hrs1]
          have HI1 := Lib.hid his1; clear his1 hrs1
          have HB3 := Lib.hid (nextB HB2.out hb); clear hb
          have HT3 := Lib.hid (HT.out.later HB3.out)
          clear HV HT2 HTR
          go_wp2_with fail
          refine (refLower_any (a := (k : Int)) (b := (j : Int)) w3 HT3.out).mono ?_
          rintro e w4 ⟨v2, rfl, hv, hb⟩
          have HV := Lib.hid hv
          obtain ⟨A2, c2, rfl, _⟩ := hv
          have HB4 := Lib.hid (nextB HB3.out hb); clear hb
          have HT4 := Lib.hid (HT.out.later HB4.out)
          go_wp2_with fail
          refine (refGreatest_any w4 HT4.out HV.out (Nat.le_trans (lowerT_len T _ _) (by rw [HN.out]; omega))).mono ?_
          rintro e w5 ⟨rfl, hb⟩
          rw [HME.out, HN.out]
          obtain ⟨r2, s2, hrs2, his2, _⟩ := tup_two (jnO n (flipZ (atT T)) k j)
          rw [hrs2]
          have HI2 := Lib.hid his2; clear his2 hrs2
          have HB5 := Lib.hid (nextB HB4.out hb); clear hb
          clear HV HT4 HT3 HB4 HB3 HB2 HB
          cases s1 with
          | false =>
            obtain rfl : res = false := HP.out.trans (pairs_no hkn hjn (by rw [HI1.out]; rfl))
            go_wp2_with fail
            go_ret
            exact ⟨rfl, HB5.out⟩
          | true =>
          cases s2 with
          | false =>
            obtain rfl : res = false := HP.out.trans (pairs_no hkn hjn (by rw [HI1.out, HI2.out]; rfl))
            go_wp2_with fail
            go_ret
            exact ⟨rfl, HB5.out⟩
          | true =>
            have HRN := Lib.hid (all_next HRW.out (show ((jnO n (atT T) k j).isSome && (jnO n (flipZ (atT T)) k j).isSome) = true by rw [HI1.out, HI2.out]; rfl))
            go_wp2_with fail
            go_roundw
            case rel => exact ⟨j + 1, by omega, by go_num, HRN.out, HB5.out⟩
            case measure => simp [intOf]; omega
        · obtain rfl : j = n := by omega
          have HAN := Lib.hid (all_next HAL.out HRW.out)
          go_wp2_with fail
          go_roundw
          case rel => exact ⟨k + 1, by omega, by go_num, HAN.out, HB.out⟩
          case measure => simp [intOf]; omega
    · obtain rfl : k = n := by omega
      obtain rfl : res = true := HP.out.trans (allB_iff.2 fun a ha => allB_iff.2 fun b hb => HAL.out a ha b hb)
      go_wp2_with fail
      go_ret
      exact ⟨rfl, HB.out⟩

end Go.Proofs.Ytidjohhnggpibaa
