/- FuturePlays returns true for every input and changes nothing: for every sequence of calls the results and the futures are the documented ones. No condition. -/
import Derived.Test.YtboelofkbhgmfaaFpk13
import Derived.Test.YtboelofkbhgmfaaRegion
import Derived.Test.YtboelofkbhgmfaaArgR
import Derived.Test.YtboelofkbhgmfaaArgI
import Derived.Test.YtboelofkbhgmfaaPlc
import Derived.Test.YtboelofkbhgmfaaLaw
import Derived.IntWalk
import Derived.Deep.QuietTactic
import Derived.BigQuiet
import Derived.Deep.CutRange
import Derived.Deep.CutBlock
import Derived.Deep.DeepCutAuto
namespace Go.Proofs.Ytboelofkbhgmfaa.futurePlays
set_option maxRecDepth 100000
open Go.RowKit Go.ChangeShapes Go.WideShapes Go.ChangeAt

def actK : List IntKind := [.u8, .u8, .u8, .u8, .i32, .i32]
/-- An act's cells. -/
theorem step_gd {w : World} {ops : Array Oper} {o : Oper} {a : Act} {K : Act → World → Prop} {Q : Exit → Act → World → Prop} {E : Prop} (hgd : Region.wanted o (yielded ops a.tmps) = true) (h : o.wp Try.prog a w K Q) :
    if Region.wanted o (yielded ops a.tmps) = true then Oper.wp Try.prog o a w K Q else E := by rw [if_pos hgd]; exact h
theorem act_at {w : World} {B : Nat} {A : Option Addr} {c : Nat} {L : List (List Int)} (h : RowsV actK w B (.slice A L.length c) L) {k : Nat} (hk : k < L.length) :
    ∃ (b off : Nat) (x0 x1 x2 x3 x4 x5 : Int), A = some ⟨b, off, none⟩ ∧ b < B ∧ ((0 ≤ x0 ∧ x0 ≤ 255) ∧ (0 ≤ x1 ∧ x1 ≤ 255) ∧ (0 ≤ x2 ∧ x2 ≤ 255) ∧ (0 ≤ x3 ∧ x3 ≤ 255) ∧ (-2147483648 ≤ x4 ∧ x4 ≤ 2147483647) ∧ (-2147483648 ≤ x5 ∧ x5 ≤ 2147483647)) ∧
      w.cell? ⟨b, off + k * 6, none⟩ = some (.int .u8 x0) ∧ w.cell? ⟨b, off + k * 6 + 1, none⟩ = some (.int .u8 x1) ∧ w.cell? ⟨b, off + k * 6 + 2, none⟩ = some (.int .u8 x2) ∧ w.cell? ⟨b, off + k * 6 + 3, none⟩ = some (.int .u8 x3) ∧ w.cell? ⟨b, off + k * 6 + 4, none⟩ = some (.int .i32 x4) ∧ w.cell? ⟨b, off + k * 6 + 5, none⟩ = some (.int .i32 x5) := by
  obtain ⟨b, off, c', e, hb, ⟨hl, hbd⟩, hc⟩ := h.cells (by decide) hk
  injection e with e1 _ _
  generalize L[k] = r at *
  match r, hl with
  | [x0, x1, x2, x3, x4, x5], _ =>
    refine ⟨b, off, x0, x1, x2, x3, x4, x5, e1, hb, ⟨hbd 0 _ _ rfl rfl, hbd 1 _ _ rfl rfl, hbd 2 _ _ rfl rfl, hbd 3 _ _ rfl rfl, hbd 4 _ _ rfl rfl, hbd 5 _ _ rfl rfl⟩, hc 0 _ _ rfl rfl, hc 1 _ _ rfl rfl, hc 2 _ _ rfl rfl, hc 3 _ _ rfl rfl, hc 4 _ _ rfl rfl, hc 5 _ _ rfl rfl⟩
def pq (x : Int) : Int := place x 6 - 1
theorem fpk_start {w w2 w3 w4 : World} {a g : Nat} {qs : List Int} {Ls : List (List FutX)} (hb : Below w.heap.size w w2) (hA : FuV w3 (fun b => w2.heap.size ≤ b ∧ b < w3.heap.size) a qs Ls) (hb3 : Below w2.heap.size w2 w3)
    (hR : RfFV w4 (fun b => w3.heap.size ≤ b ∧ b < w4.heap.size) g qs Ls) (hb4 : Below w3.heap.size w3 w4) : FpK w w4 a g qs Ls Ls [] := by
  have s1 := hb.size
  have s2 := hb3.size
  refine ⟨⟨fun b => w2.heap.size ≤ b ∧ b < w3.heap.size, fun b => w3.heap.size ≤ b ∧ b < w4.heap.size, hA.below hb4, hR, ?_, ?_, ?_, fun p hp => by cases hp⟩, (hb.trans (hb3.mono s1)).trans (hb4.mono (Nat.le_trans s1 s2))⟩
  · intro i h1 h2
    have h3 := h1.2
    have h4 := h2.1
    omega
  · intro i h1
    have h3 := h1.1
    omega
  · intro i h1
    have h3 := h1.1
    omega

/-- What the last test of a round reads, whatever else has been carried out. -/
structure PzS (w : World) (ga g tb n b1 b2 : Nat) (qs : List Int) (LL : List (List FutX)) (X : List (Nat × Obj)) (xs : Array Value) (wi : World) : Prop where
  ex : ∃ Y, FpK w wi ga g qs LL LL Y ∧ ∀ p ∈ X, p ∈ Y
  cg : wi.cell? ⟨g, 1, none⟩ = some (.slice (some ⟨tb, 0, none⟩) n n)
  tb : TabC wi tb LL
  m1 : wi.heap[b1]? = some (.cells xs 64 (0, 0))
  m2 : wi.heap[b2]? = some (.cells xs 64 (0, 0))
theorem TabC.later {w w' : World} {b : Nat} {Ls : List (List FutX)} (h : TabC w b Ls) (hb : Below w.heap.size w w') : TabC w' b Ls := by
  refine ⟨Nat.lt_of_lt_of_le h.1 hb.size, fun k hk => ?_⟩
  obtain ⟨A, c, h1, h2⟩ := h.2 k hk
  refine ⟨A, c, (hb.cell (p := ⟨b, k, none⟩) h.1).trans h1, fun j hj => ?_⟩
  obtain ⟨gq, e, q0, q1, q2, q3⟩ := h2 j hj
  have hq := World.block_lt_of_cell? w _ q0
  exact ⟨gq, e, (hb.cell (p := ⟨gq, j * 4, none⟩) hq).trans q0, (hb.cell (p := ⟨gq, j * 4 + 1, none⟩) hq).trans q1, (hb.cell (p := ⟨gq, j * 4 + 2, none⟩) hq).trans q2, (hb.cell (p := ⟨gq, j * 4 + 3, none⟩) hq).trans q3⟩
theorem PzS.later {w : World} {ga g tb n b1 b2 : Nat} {qs : List Int} {LL : List (List FutX)} {X : List (Nat × Obj)} {xs : Array Value} {wi w' : World} (h : PzS w ga g tb n b1 b2 qs LL X xs wi) (hb : Below wi.heap.size wi w') : PzS w ga g tb n b1 b2 qs LL X xs w' := by
  obtain ⟨Y, h1, h2⟩ := h.ex
  exact ⟨⟨Y, h1.below hb, h2⟩, (hb.cell (p := ⟨g, 1, none⟩) (World.block_lt_of_cell? wi _ h.cg)).trans h.cg, TabC.later h.tb hb, (hb.block _ (Array.getElem?_eq_some_iff.1 h.m1).1).trans h.m1, (hb.block _ (Array.getElem?_eq_some_iff.1 h.m2).1).trans h.m2⟩
theorem PzS.fk {w : World} {ga g tb n b1 b2 : Nat} {qs : List Int} {LL : List (List FutX)} {X : List (Nat × Obj)} {xs : Array Value} {wi : World} (h : PzS w ga g tb n b1 b2 qs LL X xs wi) : FpK w wi ga g qs LL LL [] := by
  obtain ⟨Y, h1, _⟩ := h.ex
  exact h1.sub
def XT (n : Nat) (LL : List (List FutX)) (_ : Nat) (v : Value) (w : World) : Prop := ∃ b, v = .slice (some ⟨b, 0, none⟩) n n ∧ TabC w b LL
theorem known_tab {val : Nat → Value} {n : Nat} {LL : List (List FutX)} {sp : List Nat} {j : Nat} {u : Value} {w w' : World} (hb : Below w.heap.size w w') (h : Reg.Known val (XT n LL) sp j u w) : Reg.Known val (XT n LL) sp j u w' :=
  ⟨h.plain, fun hc => by obtain ⟨b, e, ht⟩ := h.other hc; exact ⟨b, e, TabC.later ht hb⟩⟩
def fp35Val (b1 b2 ga g tb n cc : Nat) (lb st v code p : Int) (bg : Bool) : Nat → Value
  | 0 => .agg #[.int .i64 lb, .int .i64 st, .int .i32 v, .int .i64 code]
  | 1 => .agg #[.int .i64 lb, .int .i64 st, .int .i32 v, .int .i64 code]
  | 2 => .bool false
  | 3 => .bool false
  | 4 => .bool bg
  | 5 => .bool bg
  | 6 => .bool false
  | 7 => .bool false
  | 8 => .bool false
  | 9 => .pointer (some ⟨ga, 0, none⟩)
  | 10 => .int .i64 p
  | 11 => .int .i64 (cc : Int)
  | 12 => .pointer (some ⟨g, 0, none⟩)
  | 13 => .int .i64 p
  | 14 => .int .i64 (cc : Int)
  | 15 => .bool false
  | 16 => .bool false
  | 17 => .bool false
  | 18 => .pointer (some ⟨ga, 0, none⟩)
  | 20 => .pointer (some ⟨g, 0, none⟩)
  | 21 => .pointer (some ⟨g, 0, none⟩)
  | 22 => .pointer (some ⟨g, 1, none⟩)
  | 23 => .slice (some ⟨tb, 0, none⟩) n n
  | 24 => .bool true
  | 25 => .bool false
  | 26 => .bool false
  | _ => undef

set_option maxRecDepth 100000 in
set_option maxHeartbeats 40000000 in
theorem walk (v0 : Value) (l0 : List Int) (v1 : Value) (l1 : List (List Int)) (w : World) (h0 : IntsV w w.heap.size v0 l0) (m0 : l0.length ≤ maxLen) (x0 : ∀ x ∈ l0, -9223372036854775808 ≤ x ∧ x ≤ 9223372036854775807) (h1 : RowsV actK w w.heap.size v1 l1) (m1 : l1.length ≤ maxLen) :
    Calls Try.prog 7 #[v0, v1] w fun e w' => e = .returned (.bool true) ∧ Below w.heap.size w w' := by
  obtain ⟨A0, c0, rfl, hL0⟩ := h0
  obtain ⟨A1, c1, rfl, hc1, hL1, hr1⟩ := h1
  have HL0 := Lib.hid hL0
  have HA1 := Lib.hid (show RowsV actK w w.heap.size (.slice A1 l1.length c1) l1 from ⟨A1, c1, rfl, hc1, hL1, hr1⟩)
  have HX0 := Lib.hid x0
  obtain ⟨N0, hN0⟩ : ∃ N, l0.length = N := ⟨_, rfl⟩
  obtain ⟨N1, hN1⟩ : ∃ N, l1.length = N := ⟨_, rfl⟩
  have HN0 := Lib.hid hN0; have HN1 := Lib.hid hN1
  rw [hN0] at m0 ⊢
  rw [hN1] at m1 ⊢
  unfold maxLen at m0 m1
  clear hL0 hc1 hL1 hr1 x0 hN0 hN1
  by_cases h20 : 20 < N0
  · have z : decide ((20 : Int) < (N0 : Int)) = true := by simp; omega
    go_enter Try.func7, Try.ntmps7
    go_wp2_with fail
    refine (known13_any w).mono ?_
    rintro e w1 ⟨rfl, hb1⟩
    go_wp2_with fail
    go_ret
    exact ⟨rfl, hb1⟩
  have z : decide ((20 : Int) < (N0 : Int)) = false := by simp; omega
  by_cases h60 : 60 < N1
  · have z' : decide ((60 : Int) < (N1 : Int)) = true := by simp; omega
    go_enter Try.func7, Try.ntmps7
    go_wp2_with fail
    refine (known13_any w).mono ?_
    rintro e w1 ⟨rfl, hb1⟩
    go_wp2_with fail
    go_ret
    exact ⟨rfl, hb1⟩
  have z' : decide ((60 : Int) < (N1 : Int)) = false := by simp; omega
  have hN20 : N0 ≤ 20 := by omega
  have hN60 : N1 ≤ 60 := by omega
  clear h20 h60
  go_enter Try.func7, Try.ntmps7
  go_wp2_with fail
  refine (known13_any w).mono ?_
  rintro e w1 ⟨rfl, hb1⟩
  have B1 := Lib.hid hb1; clear hb1
  go_wp2_with fail
  clear z z'
  go_loopw [5, 6] (fun v i wr => ∃ k : Nat, k ≤ N0 ∧ i = .int .i64 k ∧ OwnI64 wr w.heap.size v ((l0.take k).map pq) ∧ Below w.heap.size w wr) (fun _ i _ => N0 - (intOf i).toNat)
  case atStart => exact ⟨0, Nat.zero_le _, rfl, OwnI64.nil _ _, B1.out⟩
  case round =>
    obtain ⟨k, hk, rfl, ho, hb⟩ := hrel
    have HO := Lib.hid ho; have HB := Lib.hid hb
    have hlen : ((l0.take k).map pq).length = k := by rw [List.length_map, List.length_take, HN0.out]; omega
    obtain ⟨Av, cv, hv⟩ := ho.shapeN
    rw [hlen] at hv
    subst hv
    have HLEN := Lib.hid hlen
    unfold OwnI64 at ho
    rw [hlen] at ho
    have HO2 := Lib.hid ho
    have hsz := hb.size
    clear ho hb hlen
    by_cases hkn : k < N0
    · have hkl : k < l0.length := by rw [HN0.out]; exact hkn
      obtain ⟨b, off, rfl, hb, d0⟩ := lie_int HL0.out hkl
      have d1 : wr.cell? ⟨b, off + k, none⟩ = some (.int .i64 l0[k]) := by rw [HB.out.cell (p := ⟨b, off + k, none⟩) hb, d0]
      have HTK := Lib.hid (List.take_succ_eq_append_getElem hkl)
      have hx := HX0.out l0[k] (List.getElem_mem hkl)
      clear d0
      generalize l0[k] = y at *
      have HPL := Lib.hid (place_any wr y 6 hx (by omega) (by omega))
      have hp6 := place_in (k := y) (n := 6) (by omega)
      obtain ⟨z, hz⟩ : ∃ z, place y 6 = z := ⟨_, rfl⟩
      have HZ : Hid (pq y = z - 1) := Lib.hid (by unfold pq; rw [hz])
      rw [hz] at HPL hp6
      have i1 : (0 : Int) ≤ (k : Int) ∧ (k : Int) < N0 := by omega
      clear hz hkl
      go_wp2_with fail
      refine HPL.out.mono ?_
      rintro e _ ⟨rfl, rfl⟩
      go_wp2_with (at_builtin; go_must (refine wpList_append_new 22 3 (.int .i64 0) 1 8 Try.underlying22 inf_int rfl (by decide) (by decide) rfl (.tmp 37) (.tmp 44) rfl w.heap.size _ _ _ _ [.int .i64 (z - 1)] rfl rfl HO2.out rfl rfl ?c1 ?c2 ?c3 ?_))
      case c1 => intro u hu; obtain rfl : u = .int .i64 (z - 1) := by simpa using hu
                 rfl
      case c2 => omega
      case c3 => exact hsz
      intro v3 w3 ho3 hg3 _
      rw [← List.map_take] at ho3
      have O3 : Hid (OwnI64 w3 w.heap.size v3 ((l0.take (k + 1)).map pq)) := Lib.hid (OwnI64.snoc (x := z - 1) (l := (l0.take k).map pq) (by rw [HLEN.out]) ho3 (by rw [HTK.out, List.map_append, List.map_cons, List.map_nil, HZ.out]))
      have B3 : Hid (Below w.heap.size w w3) := Lib.hid (HB.out.grown hg3 HB.out.size (fun j hj => (HO2.out.lt _ hj).1))
      clear ho3 hg3
      go_wp2_with fail
      go_roundw
      case rel => exact ⟨k + 1, by omega, by go_num, O3.out, B3.out⟩
      case measure => simp [intOf]; omega
    · obtain rfl : k = N0 := by omega
      obtain ⟨lq, hlq⟩ : ∃ lq, (l0.take k).map pq = lq := ⟨_, rfl⟩
      rw [hlq] at HO HLEN
      have hnv := HO.out.num
      have HNV : Hid (NumV wr wr.heap.size (.slice Av k cv) lq) := Lib.hid hnv
      have HAN := Lib.hid (fuNew_any (.slice Av k cv) lq wr HNV.out (by rw [HLEN.out]; omega))
      clear hlq HO2 hnv hkn
      obtain ⟨w2, rfl⟩ : ∃ w2 : World, w2 = wr := ⟨_, rfl⟩
      go_wp2_with fail
      with_reducible refine HAN.out.mono ?_
      rintro e w3 ⟨ga, rfl, hA, hb3⟩
      have A3 := Lib.hid hA
      have B3 := Lib.hid hb3
      have HRN := Lib.hid (rNewF_any (.slice Av k cv) lq w3 (HNV.out.later hb3) (by rw [HLEN.out]; omega))
      clear hA hb3 HAN
      go_wp2_with fail
      with_reducible refine HRN.out.mono ?_
      rintro e w4 ⟨g, rfl, hR, hb4⟩
      have K4 := Lib.hid (fpk_start HB.out A3.out B3.out hR hb4)
      clear hR hb4 HRN A3 B3
      obtain ⟨qs, hqs⟩ : ∃ qs, quotasZ lq = qs := ⟨_, rfl⟩
      obtain ⟨Ls0, hLs0⟩ : ∃ Ls : List (List FutX), List.replicate (min lq.length 16) [] = Ls := ⟨_, rfl⟩
      rw [hqs, hLs0] at K4
      have HO0 : Hid (Opn Ls0) := Lib.hid (by rw [← hLs0]; intro l hl x hx; obtain rfl := (List.mem_replicate.1 hl).2; cases hx)
      clear hqs hLs0
      go_wp2_with fail
      go_loopw [9] (fun i wr => ∃ (j : Nat) (Ls : List (List FutX)), j ≤ N1 ∧ i = .int .i64 j ∧ FpK w wr ga g qs Ls Ls [] ∧ Opn Ls) (fun i _ => N1 - (intOf i).toNat)
      case atStart => exact ⟨0, Ls0, Nat.zero_le _, rfl, K4.out, HO0.out⟩
      case round =>
        clear K4
        obtain ⟨j, Ls, hj, rfl, hK, hO⟩ := hrel
        have HOP := Lib.hid hO
        have HTB := Lib.hid hK.tab.1
        clear hO
        by_cases hjn : j < N1
        · have hjl : j < l1.length := by rw [HN1.out]; exact hjn
          obtain ⟨b, off, x0, x1, x2, x3, x4, x5, eA, hb, ⟨b0, b1, b2, b3, b4, b5⟩, t0, t1, t2, t3, t4, t5⟩ := act_at HA1.out hjl
          subst eA
          have d0 : wr.cell? ⟨b, off + j * 6, none⟩ = some (.int .u8 x0) := (hK.bl.cell (p := ⟨b, off + j * 6, none⟩) hb).trans t0
          have d1 : wr.cell? ⟨b, off + j * 6 + 1, none⟩ = some (.int .u8 x1) := (hK.bl.cell (p := ⟨b, off + j * 6 + 1, none⟩) hb).trans t1
          have d2 : wr.cell? ⟨b, off + j * 6 + 2, none⟩ = some (.int .u8 x2) := (hK.bl.cell (p := ⟨b, off + j * 6 + 2, none⟩) hb).trans t2
          have d3 : wr.cell? ⟨b, off + j * 6 + 3, none⟩ = some (.int .u8 x3) := (hK.bl.cell (p := ⟨b, off + j * 6 + 3, none⟩) hb).trans t3
          have d4 : wr.cell? ⟨b, off + j * 6 + 4, none⟩ = some (.int .i32 x4) := (hK.bl.cell (p := ⟨b, off + j * 6 + 4, none⟩) hb).trans t4
          have d5 : wr.cell? ⟨b, off + j * 6 + 5, none⟩ = some (.int .i32 x5) := (hK.bl.cell (p := ⟨b, off + j * 6 + 5, none⟩) hb).trans t5
          have i1 : (0 : Int) ≤ (j : Int) ∧ (j : Int) < N1 := by omega
          obtain ⟨w5, hw5⟩ : ∃ x, x = wr.alloc (.cells #[.int .u8 x0, .int .u8 x1, .int .u8 x2, .int .u8 x3, .int .i32 x4, .int .i32 x5] 59) := ⟨_, rfl⟩
          have HX : Hid (∀ i : Nat, 0 ≤ i → ∀ wq La Lr, FpK w wq ga g qs La Lr [(wr.heap.size, .cells #[.int .u8 x0, .int .u8 x1, .int .u8 x2, .int .u8 x3, .int .i32 x4, .int .i32 x5] 59)] → wq.heap[wr.heap.size]? = some (.cells #[.int .u8 x0, .int .u8 x1, .int .u8 x2, .int .u8 x3, .int .i32 x4, .int .i32 x5] 59 (0, 0))) := Lib.hid fun _ _ wq La Lr h => h.box (List.mem_singleton.2 rfl)
          obtain ⟨X, hX⟩ : ∃ X : List (Nat × Obj), X = [(wr.heap.size, .cells #[.int .u8 x0, .int .u8 x1, .int .u8 x2, .int .u8 x3, .int .i32 x4, .int .i32 x5] 59)] := ⟨_, rfl⟩
          rw [← hX] at HX
          have K5 : Hid (FpK w w5 ga g qs Ls Ls X) := Lib.hid (by rw [hw5, hX]; exact hK.add _)
          have hbx := HX.out 0 (Nat.le_refl _) w5 Ls Ls K5.out
          have y0 : w5.cell? ⟨wr.heap.size, 0, none⟩ = some (.int .u8 x0) := cell_blk hbx 0
          have y1 : w5.cell? ⟨wr.heap.size, 1, none⟩ = some (.int .u8 x1) := cell_blk hbx 1
          have y2 : w5.cell? ⟨wr.heap.size, 2, none⟩ = some (.int .u8 x2) := cell_blk hbx 2
          have y3 : w5.cell? ⟨wr.heap.size, 3, none⟩ = some (.int .u8 x3) := cell_blk hbx 3
          have y4 : w5.cell? ⟨wr.heap.size, 4, none⟩ = some (.int .i32 x4) := cell_blk hbx 4
          have y5 : w5.cell? ⟨wr.heap.size, 5, none⟩ = some (.int .i32 x5) := cell_blk hbx 5
          have HW5 := Lib.hid hw5
          obtain ⟨by', hby⟩ : ∃ y, x1 % 18 - 1 = y := ⟨_, rfl⟩
          have HBY := Lib.hid hby
          obtain ⟨lb, hlb⟩ : ∃ y, x2 % 16 = y := ⟨_, rfl⟩
          have HLB := Lib.hid hlb
          have hbyb : -9223372036854775808 ≤ by' ∧ by' ≤ 9223372036854775807 := by omega
          obtain ⟨idn, hidn⟩ : ∃ y, x1 % 4 * 65536 + x3 % 5 = y := ⟨_, rfl⟩
          have HIDN := Lib.hid hidn
          have hidb : -2147483648 ≤ idn ∧ idn ≤ 2147483647 := by omega
          have HMM : Hid (x0 % 6 = 0 ∨ x0 % 6 = 1 ∨ x0 % 6 = 2 ∨ x0 % 6 = 3 ∨ x0 % 6 = 4 ∨ x0 % 6 = 5) := Lib.hid (by omega)
          have HBX := Lib.hid hbx
          clear hK hjl hb t0 t1 t2 t3 t4 t5 hw5 hX hbx hby hlb hidn
          have eb := HBY.out
          go_upto_region 15 with (fail)
          rw [← HW5.out]
          clear d0 d1 d2 d3 d4 d5
          go_upto_region 16 with (fail)
          try rw [eb]
          clear eb
          by_cases h230 : 230 < x3
          · have z230 : decide ((230 : Int) < x3) = true := by simpa using h230
            go_upto_region 19 with (fail)
            go_upto_block 4 with (fail)
            go_cut [13, 14, 15, 16] from 82 to 142 (fun _ _ _ _ wx => ∃ Lx, Opn Lx ∧ FpK w wx ga g qs Lx Lx X)
            case first =>
              rcases HMM.out with em | em | em | em | em | em
              · have HM1 := Lib.hid (fpMake K5.out by' lb hbyb)
                have HM2 := Lib.hid (fun wq (h : FpK w wq ga g qs (mkL qs Ls by' ⟨lb, 0, 0, 0⟩) Ls X) => fpMakeR h by' lb hbyb)
                obtain ⟨im, him⟩ : ∃ y, mkId qs Ls by' = y := ⟨_, rfl⟩
                obtain ⟨bm, hbm⟩ : ∃ y, mkB qs Ls by' = y := ⟨_, rfl⟩
                rw [him, hbm] at HM1 HM2
                have r1 : (im != im) = false := bne_self_eq_false _
                have r2 : (bm != bm) = false := bne_self_eq_false _
                clear him hbm
                have el := HLB.out
                go_wp2_with fail
                refine HM1.out.mono ?_
                rintro e w7 ⟨rfl, h7⟩
                have hbx := HX.out 0 (Nat.le_refl _) w7 _ _ h7
                have q2 : w7.cell? ⟨wr.heap.size, 2, none⟩ = some (.int .u8 x2) := cell_blk hbx 2
                have HM3 := Lib.hid (HM2.out w7 h7)
                clear h7 hbx
                go_wp2_with fail
                refine HM3.out.mono ?_
                rintro e w8 ⟨rfl, h8⟩
                have K8 := Lib.hid h8
                clear h8 el
                go_wp2_with fail
                go_meet
                exact ⟨_, HOP.out.made by' lb, K8.out⟩
              · have HM1 := Lib.hid (fpMake K5.out by' lb hbyb)
                have HM2 := Lib.hid (fun wq (h : FpK w wq ga g qs (mkL qs Ls by' ⟨lb, 0, 0, 0⟩) Ls X) => fpMakeR h by' lb hbyb)
                obtain ⟨im, him⟩ : ∃ y, mkId qs Ls by' = y := ⟨_, rfl⟩
                obtain ⟨bm, hbm⟩ : ∃ y, mkB qs Ls by' = y := ⟨_, rfl⟩
                rw [him, hbm] at HM1 HM2
                have r1 : (im != im) = false := bne_self_eq_false _
                have r2 : (bm != bm) = false := bne_self_eq_false _
                clear him hbm
                have el := HLB.out
                go_wp2_with fail
                refine HM1.out.mono ?_
                rintro e w7 ⟨rfl, h7⟩
                have hbx := HX.out 0 (Nat.le_refl _) w7 _ _ h7
                have q2 : w7.cell? ⟨wr.heap.size, 2, none⟩ = some (.int .u8 x2) := cell_blk hbx 2
                have HM3 := Lib.hid (HM2.out w7 h7)
                clear h7 hbx
                go_wp2_with fail
                refine HM3.out.mono ?_
                rintro e w8 ⟨rfl, h8⟩
                have K8 := Lib.hid h8
                clear h8 el
                go_wp2_with fail
                go_meet
                exact ⟨_, HOP.out.made by' lb, K8.out⟩
              · have HM1 := Lib.hid (fpMake K5.out by' lb hbyb)
                have HM2 := Lib.hid (fun wq (h : FpK w wq ga g qs (mkL qs Ls by' ⟨lb, 0, 0, 0⟩) Ls X) => fpMakeR h by' lb hbyb)
                obtain ⟨im, him⟩ : ∃ y, mkId qs Ls by' = y := ⟨_, rfl⟩
                obtain ⟨bm, hbm⟩ : ∃ y, mkB qs Ls by' = y := ⟨_, rfl⟩
                rw [him, hbm] at HM1 HM2
                have r1 : (im != im) = false := bne_self_eq_false _
                have r2 : (bm != bm) = false := bne_self_eq_false _
                clear him hbm
                have el := HLB.out
                go_wp2_with fail
                refine HM1.out.mono ?_
                rintro e w7 ⟨rfl, h7⟩
                have hbx := HX.out 0 (Nat.le_refl _) w7 _ _ h7
                have q2 : w7.cell? ⟨wr.heap.size, 2, none⟩ = some (.int .u8 x2) := cell_blk hbx 2
                have HM3 := Lib.hid (HM2.out w7 h7)
                clear h7 hbx
                go_wp2_with fail
                refine HM3.out.mono ?_
                rintro e w8 ⟨rfl, h8⟩
                have K8 := Lib.hid h8
                clear h8 el
                go_wp2_with fail
                go_meet
                exact ⟨_, HOP.out.made by' lb, K8.out⟩
              · have HEQ := Lib.hid (HOP.out.keep HTB.out x5 x4)
                have HS1 := Lib.hid (fun wq Lr (h : FpK w wq ga g qs Ls Lr X) => fpKeep h x5 x4 (by omega))
                have HS2 := Lib.hid (fun wq La (h : FpK w wq ga g qs La Ls X) => fpKeepR h x5 x4 (by omega))
                rw [HEQ.out.1] at HS2
                obtain ⟨Lx, hLx⟩ : ∃ y, endL Ls x5 (keepF x4) = y := ⟨_, rfl⟩
                obtain ⟨bs, hbs⟩ : ∃ y, openB Ls x5 = y := ⟨_, rfl⟩
                have HOX : Hid (Opn Lx) := Lib.hid (by rw [← hLx]; exact HEQ.out.2)
                rw [hLx, hbs] at HS1 HS2
                have r1 : (bs != bs) = false := bne_self_eq_false _
                have KD6 : Hid (FpK w w5.drew ga g qs Ls Ls X) := Lib.hid (K5.out.below ⟨rfl, rfl, rfl, Nat.le_refl _, fun _ _ => rfl⟩)
                have HEW : Hid (IntKind.i64.wrap x2 = x2) := Lib.hid (IntWalk.i64_in _ (by omega))
                clear hLx hbs
                go_wp2_with fail
                have ew := HEW.out
                go_region_law
                  (first
                    | (refine step_go rfl ?_; go_simp; (first | (with_reducible refine (HS1.out _ _ KR.out).mono ?_) | (with_reducible refine (HS1.out _ _ KD6.out).mono ?_)); rintro e wA ⟨rfl, hA⟩
                       have hbx := HX.out 0 (Nat.le_refl _) wA _ _ hA
                       have qA : wA.cell? ⟨wr.heap.size, 4, none⟩ = some (.int .i32 x4) := cell_blk hbx 4
                       first | (have KF : Hid (FpK w wA ga g qs Lx Lx X) := Lib.hid hA) | (have KA : Hid (FpK w wA ga g qs Lx Ls X) := Lib.hid hA)
                       clear hA hbx)
                    | (refine step_go rfl ?_; go_simp; (first | (with_reducible refine (HS2.out _ _ KA.out).mono ?_) | (with_reducible refine (HS2.out _ _ KD6.out).mono ?_)); rintro e wA ⟨rfl, hA⟩
                       have hbx := HX.out 0 (Nat.le_refl _) wA _ _ hA
                       have qA : wA.cell? ⟨wr.heap.size, 4, none⟩ = some (.int .i32 x4) := cell_blk hbx 4
                       first | (have KF : Hid (FpK w wA ga g qs Lx Lx X) := Lib.hid hA) | (have KR : Hid (FpK w wA ga g qs Ls Lx X) := Lib.hid hA)
                       clear hA hbx))
                all_goals
                  clear ew
                  go_wp2_with fail
                  go_meet
                  exact ⟨_, HOX.out, KF.out⟩
              · have HEQ := Lib.hid (HOP.out.brk HTB.out x5 x2)
                have HS1 := Lib.hid (fun wq Lr (h : FpK w wq ga g qs Ls Lr X) => fpBreak h x5 x2 (by omega))
                have HS2 := Lib.hid (fun wq La (h : FpK w wq ga g qs La Ls X) => fpBreakR h x5 x2 (by omega))
                rw [HEQ.out.1] at HS2
                obtain ⟨Lx, hLx⟩ : ∃ y, endL Ls x5 (breakF x2) = y := ⟨_, rfl⟩
                obtain ⟨bs, hbs⟩ : ∃ y, openB Ls x5 = y := ⟨_, rfl⟩
                have HOX : Hid (Opn Lx) := Lib.hid (by rw [← hLx]; exact HEQ.out.2)
                rw [hLx, hbs] at HS1 HS2
                have r1 : (bs != bs) = false := bne_self_eq_false _
                have KD6 : Hid (FpK w w5.drew ga g qs Ls Ls X) := Lib.hid (K5.out.below ⟨rfl, rfl, rfl, Nat.le_refl _, fun _ _ => rfl⟩)
                have HEW : Hid (IntKind.i64.wrap x2 = x2) := Lib.hid (IntWalk.i64_in _ (by omega))
                clear hLx hbs
                go_wp2_with fail
                have ew := HEW.out
                go_region_law
                  (first
                    | (refine step_go rfl ?_; go_simp; (first | (with_reducible refine (HS1.out _ _ KR.out).mono ?_) | (with_reducible refine (HS1.out _ _ KD6.out).mono ?_)); rintro e wA ⟨rfl, hA⟩
                       have hbx := HX.out 0 (Nat.le_refl _) wA _ _ hA
                       have qA : wA.cell? ⟨wr.heap.size, 2, none⟩ = some (.int .u8 x2) := cell_blk hbx 2
                       first | (have KF : Hid (FpK w wA ga g qs Lx Lx X) := Lib.hid hA) | (have KA : Hid (FpK w wA ga g qs Lx Ls X) := Lib.hid hA)
                       clear hA hbx)
                    | (refine step_go rfl ?_; go_simp; (first | (with_reducible refine (HS2.out _ _ KA.out).mono ?_) | (with_reducible refine (HS2.out _ _ KD6.out).mono ?_)); rintro e wA ⟨rfl, hA⟩
                       have hbx := HX.out 0 (Nat.le_refl _) wA _ _ hA
                       have qA : wA.cell? ⟨wr.heap.size, 2, none⟩ = some (.int .u8 x2) := cell_blk hbx 2
                       first | (have KF : Hid (FpK w wA ga g qs Lx Lx X) := Lib.hid hA) | (have KR : Hid (FpK w wA ga g qs Ls Lx X) := Lib.hid hA)
                       clear hA hbx))
                all_goals
                  clear ew
                  go_wp2_with fail
                  go_meet
                  exact ⟨_, HOX.out, KF.out⟩
              · go_wp2_with fail
                go_meet
                exact ⟨_, HOP.out, K5.out⟩
            case rest =>
              obtain ⟨Lx, hO, hK⟩ := hcut
              have HOL := Lib.hid hO
              have KL := Lib.hid hK
              clear hO hK
              have HG1 := Lib.hid (fpGet KL.out x5 (by omega))
              have HG2 := Lib.hid (fun wq X' (h : FpK w wq ga g qs Lx Lx X') => fpGetR h x5 (by omega))
              unfold FpG at HG1 HG2
              obtain ⟨xg, hxg⟩ : ∃ y, itmZ Lx x5 zF = y := ⟨_, rfl⟩
              obtain ⟨bg, hbg⟩ : ∃ y, isIn Lx x5 = y := ⟨_, rfl⟩
              rw [hxg, hbg] at HG1 HG2
              unfold futA at HG1 HG2
              have HOPN : Hid (Opn Lx) := Lib.hid (HOL.out)
              obtain ⟨LL, hLL⟩ : ∃ y, Lx = y := ⟨_, rfl⟩
              rw [hLL] at HG1 HG2 HOPN
              clear hxg hbg hLL
              go_wp2_with fail
              refine HG1.out.mono ?_
              rintro e w20 ⟨rfl, h20⟩
              have K21 := Lib.hid (h20.add (.cells #[.int .i64 xg.lb, .int .i64 xg.st, .int .i32 xg.v, .int .i64 xg.code] 64))
              have HG3 := Lib.hid (HG2.out _ _ K21.out)
              clear h20
              go_wp2_with fail
              refine HG3.out.mono ?_
              rintro e w22 ⟨rfl, h22⟩
              obtain ⟨w23, hw23⟩ : ∃ y, y = w22.alloc (.cells #[.int .i64 xg.lb, .int .i64 xg.st, .int .i32 xg.v, .int .i64 xg.code] 64) := ⟨_, rfl⟩
              have h23 := h22.add (.cells #[.int .i64 xg.lb, .int .i64 xg.st, .int .i32 xg.v, .int .i64 xg.code] 64)
              rw [← hw23] at h23
              have K23 := Lib.hid h23
              have HW23 := Lib.hid hw23
              have hb1 := h23.box (List.mem_cons_of_mem _ List.mem_cons_self)
              have hb2 := h23.box List.mem_cons_self
              have u0 : w23.cell? ⟨w20.heap.size, 0, none⟩ = some (.int .i64 xg.lb) := cell_blk hb1 0
              have u1 : w23.cell? ⟨w20.heap.size, 1, none⟩ = some (.int .i64 xg.st) := cell_blk hb1 1
              have u2 : w23.cell? ⟨w20.heap.size, 2, none⟩ = some (.int .i32 xg.v) := cell_blk hb1 2
              have u3 : w23.cell? ⟨w20.heap.size, 3, none⟩ = some (.int .i64 xg.code) := cell_blk hb1 3
              have v0 : w23.cell? ⟨w22.heap.size, 0, none⟩ = some (.int .i64 xg.lb) := cell_blk hb2 0
              have v1 : w23.cell? ⟨w22.heap.size, 1, none⟩ = some (.int .i64 xg.st) := cell_blk hb2 1
              have v2 : w23.cell? ⟨w22.heap.size, 2, none⟩ = some (.int .i32 xg.v) := cell_blk hb2 2
              have v3 : w23.cell? ⟨w22.heap.size, 3, none⟩ = some (.int .i64 xg.code) := cell_blk hb2 3
              obtain ⟨hn16, hle, tb, cg, htab⟩ := h23.tab
              have hgl := World.block_lt_of_cell? w23 _ cg
              have KD := Lib.hid (h23.below (w' := w23.drew) ⟨rfl, rfl, rfl, Nat.le_refl _, fun _ _ => rfl⟩)
              have HC1 := Lib.hid (fpCount KD.out by')
              have HC2 := Lib.hid (fpCountR KD.out by')
              have HAL := Lib.hid (fpAll KD.out)
              have HSM := Lib.hid (fun (w' : World) (b1 b2 : Nat) (h1 : TabC w' b1 LL) (h2 : TabC w' b2 LL) => sameF_any h1 h2 hn16 hle)
              obtain ⟨cc, hcc⟩ : ∃ c : Nat, cntZ LL by' = c := ⟨_, rfl⟩
              rw [hcc] at HC1 HC2
              have HCG := Lib.hid cg
              obtain ⟨N9, hN9⟩ : ∃ n, LL.length = n := ⟨_, rfl⟩
              have HN9 := Lib.hid hN9
              rw [hN9] at cg HSM
              have s0 : (xg.lb == xg.lb) = true := beq_self_eq_true _
              have s1 : (xg.st == xg.st) = true := beq_self_eq_true _
              have s2 : (xg.v == xg.v) = true := beq_self_eq_true _
              have s3 : (xg.code == xg.code) = true := beq_self_eq_true _
              have s4 : (bg != bg) = false := bne_self_eq_false _
              have s5 : ((cc : Int) != (cc : Int)) = false := bne_self_eq_false _
              have HCG' : Hid (w23.drew.cell? ⟨g, 1, none⟩ = some (.slice (some ⟨tb, 0, none⟩) N9 N9)) := Lib.hid cg
              have HTAB : Hid (TabC w23.drew tb LL) := Lib.hid htab
              have HB1 : Hid (w23.drew.heap[w20.heap.size]? = some (.cells #[.int .i64 xg.lb, .int .i64 xg.st, .int .i32 xg.v, .int .i64 xg.code] 64 (0, 0))) := Lib.hid hb1
              have HB2 : Hid (w23.drew.heap[w22.heap.size]? = some (.cells #[.int .i64 xg.lb, .int .i64 xg.st, .int .i32 xg.v, .int .i64 xg.code] 64 (0, 0))) := Lib.hid hb2
              have HCC := Lib.hid hcc
              clear hcc hN9 h22 h23 hw23 hb1 hb2 htab hle hn16 HC1 HC2 HAL hgl
              go_wp2_with fail
              rw [← HW23.out]
              have HS0 : Hid (PzS w ga g tb N9 w20.heap.size w22.heap.size qs LL X #[.int .i64 xg.lb, .int .i64 xg.st, .int .i32 xg.v, .int .i64 xg.code] w23.drew) := Lib.hid ⟨⟨_, KD.out, fun p hp => List.mem_cons_of_mem _ (List.mem_cons_of_mem _ hp)⟩, HCG'.out, HTAB.out, HB1.out, HB2.out⟩
              refine Reg.wp_facts_sl [155, 156, 157, 158, 159, 160, 161, 162, 163, 164, 165, 166, 167, 168, 169, 170, 171, 172, 173, 174, 175, 176, 177, 178, 179, 180, 181] rfl [] [[], [], [(0, 155), (1, 156)], [(2, 157)], [], [], [(4, 159), (5, 160)], [(3, 158), (6, 161)], [(7, 162)], [], [], [(9, 164), (10, 165)], [], [], [(12, 167), (13, 168)], [(11, 166), (14, 169)], [(8, 163), (15, 170)], [(16, 171)], [], [(18, 173)], [], [(20, 175)], [(21, 176)], [(22, 177)], [(19, 174), (23, 178)], [(24, 179)], [(17, 172), (25, 180)]] [(26, 181)] (Reg.Known (fp35Val w20.heap.size w22.heap.size ga g tb N9 cc xg.lb xg.st xg.v xg.code by' bg) (XT N9 LL) [19]) (fun _ wi => PzS w ga g tb N9 w20.heap.size w22.heap.size qs LL X #[.int .i64 xg.lb, .int .i64 xg.st, .int .i32 xg.v, .int .i64 xg.code] wi) (by kernel_rfl) (by kernel_rfl) ?start ?steps ?finish
              case start => exact HS0.out
              case steps =>
                refine Reg.Steps.zip ?_ ?_
                · refine Reg.step_go rfl ?_
                  intro a wi ki hf hd hS hc K hK
                  have f17 : a.tmps.getD 17 undef = .pointer (some ⟨w20.heap.size, 0, none⟩) := hf.same 17 rfl
                  clear hf hd hc
                  have q0 : wi.cell? ⟨w20.heap.size, 0, none⟩ = some (.int .i64 xg.lb) := cell_blk hS.m1 0
                  have q1 : wi.cell? ⟨w20.heap.size, 1, none⟩ = some (.int .i64 xg.st) := cell_blk hS.m1 1
                  have q2 : wi.cell? ⟨w20.heap.size, 2, none⟩ = some (.int .i32 xg.v) := cell_blk hS.m1 2
                  have q3 : wi.cell? ⟨w20.heap.size, 3, none⟩ = some (.int .i64 xg.code) := cell_blk hS.m1 3
                  have hK0 := Lib.hid hK; clear hK
                  have hS0 := Lib.hid hS; clear hS
                  go_simp
                  exact hK0.out _ _ (Reg.Known.mk_val rfl rfl) (fun _ _ h => h) hS0.out
                refine Reg.Steps.zip ?_ ?_
                · refine Reg.step_go rfl ?_
                  intro a wi ki hf hd hS hc K hK
                  have f19 : a.tmps.getD 19 undef = .pointer (some ⟨w22.heap.size, 0, none⟩) := hf.same 19 rfl
                  clear hf hd hc
                  have q0 : wi.cell? ⟨w22.heap.size, 0, none⟩ = some (.int .i64 xg.lb) := cell_blk hS.m2 0
                  have q1 : wi.cell? ⟨w22.heap.size, 1, none⟩ = some (.int .i64 xg.st) := cell_blk hS.m2 1
                  have q2 : wi.cell? ⟨w22.heap.size, 2, none⟩ = some (.int .i32 xg.v) := cell_blk hS.m2 2
                  have q3 : wi.cell? ⟨w22.heap.size, 3, none⟩ = some (.int .i64 xg.code) := cell_blk hS.m2 3
                  have hK0 := Lib.hid hK; clear hK
                  have hS0 := Lib.hid hS; clear hS
                  go_simp
                  exact hK0.out _ _ (Reg.Known.mk_val rfl rfl) (fun _ _ h => h) hS0.out
                refine Reg.Steps.zip ?_ ?_
                · refine Reg.step_go rfl ?_
                  intro a wi ki hf hd hS hc K hK
                  have e155 : a.tmps.getD 155 undef = .agg #[.int .i64 xg.lb, .int .i64 xg.st, .int .i32 xg.v, .int .i64 xg.code] := hd.1.plain rfl
                  have e156 : a.tmps.getD 156 undef = .agg #[.int .i64 xg.lb, .int .i64 xg.st, .int .i32 xg.v, .int .i64 xg.code] := hd.2.1.plain rfl
                  clear hf hd hc
                  have hK0 := Lib.hid hK; clear hK
                  have hS0 := Lib.hid hS; clear hS
                  go_simp
                  exact hK0.out _ _ (Reg.Known.mk_val rfl rfl) (fun _ _ h => h) hS0.out
                refine Reg.Steps.zip ?_ ?_
                · refine Reg.step_go rfl ?_
                  intro a wi ki hf hd hS hc K hK
                  have e157 : a.tmps.getD 157 undef = .bool false := hd.1.plain rfl
                  clear hf hd hc
                  have hK0 := Lib.hid hK; clear hK
                  have hS0 := Lib.hid hS; clear hS
                  go_simp
                  exact hK0.out _ _ (Reg.Known.mk_val rfl rfl) (fun _ _ h => h) hS0.out
                refine Reg.Steps.zip ?_ ?_
                · refine Reg.step_on rfl (fun u w h => h.plain rfl) ?_
                  intro a wi ki hf hd hS hc K hK
                  have f18 : a.tmps.getD 18 undef = .bool bg := hf.same 18 rfl
                  clear hf hd hc
                  have hK0 := Lib.hid hK; clear hK
                  have hS0 := Lib.hid hS; clear hS
                  go_simp
                  exact hK0.out _ _ (Reg.Known.mk_val rfl rfl) (fun _ _ h => h) hS0.out
                refine Reg.Steps.zip ?_ ?_
                · refine Reg.step_on rfl (fun u w h => h.plain rfl) ?_
                  intro a wi ki hf hd hS hc K hK
                  have f20 : a.tmps.getD 20 undef = .bool bg := hf.same 20 rfl
                  clear hf hd hc
                  have hK0 := Lib.hid hK; clear hK
                  have hS0 := Lib.hid hS; clear hS
                  go_simp
                  exact hK0.out _ _ (Reg.Known.mk_val rfl rfl) (fun _ _ h => h) hS0.out
                refine Reg.Steps.zip ?_ ?_
                · refine Reg.step_on rfl (fun u w h => h.plain rfl) ?_
                  intro a wi ki hf hd hS hc K hK
                  have e159 : a.tmps.getD 159 undef = .bool bg := hd.1.plain rfl
                  have e160 : a.tmps.getD 160 undef = .bool bg := hd.2.1.plain rfl
                  clear hf hd hc
                  have hK0 := Lib.hid hK; clear hK
                  have hS0 := Lib.hid hS; clear hS
                  go_simp
                  exact hK0.out _ _ (Reg.Known.mk_val rfl rfl) (fun _ _ h => h) hS0.out
                refine Reg.Steps.zip ?_ ?_
                · refine Reg.step_go rfl ?_
                  intro a wi ki hf hd hS hc K hK
                  have e158 : a.tmps.getD 158 undef = .bool false := hd.1.plain rfl
                  have e161 : a.tmps.getD 161 undef = .bool false := hd.2.1.plain rfl
                  clear hf hd hc
                  have hK0 := Lib.hid hK; clear hK
                  have hS0 := Lib.hid hS; clear hS
                  go_simp
                  exact hK0.out _ _ (Reg.Known.mk_val rfl rfl) (fun _ _ h => h) hS0.out
                refine Reg.Steps.zip ?_ ?_
                · refine Reg.step_go rfl ?_
                  intro a wi ki hf hd hS hc K hK
                  have e162 : a.tmps.getD 162 undef = .bool false := hd.1.plain rfl
                  clear hf hd hc
                  have hK0 := Lib.hid hK; clear hK
                  have hS0 := Lib.hid hS; clear hS
                  go_simp
                  exact hK0.out _ _ (Reg.Known.mk_val rfl rfl) (fun _ _ h => h) hS0.out
                refine Reg.Steps.zip ?_ ?_
                · refine Reg.step_on rfl (fun u w h => h.plain rfl) ?_
                  intro a wi ki hf hd hS hc K hK
                  have f7 : a.tmps.getD 7 undef = .pointer (some ⟨ga, 0, none⟩) := hf.same 7 rfl
                  clear hf hd hc
                  have hK0 := Lib.hid hK; clear hK
                  have hS0 := Lib.hid hS; clear hS
                  go_simp
                  exact hK0.out _ _ (Reg.Known.mk_val rfl rfl) (fun _ _ h => h) hS0.out
                refine Reg.Steps.zip ?_ ?_
                · refine Reg.step_on rfl (fun u w h => h.plain rfl) ?_
                  intro a wi ki hf hd hS hc K hK
                  have f11 : a.tmps.getD 11 undef = .int .i64 by' := hf.same 11 rfl
                  clear hf hd hc
                  have hK0 := Lib.hid hK; clear hK
                  have hS0 := Lib.hid hS; clear hS
                  go_simp
                  exact hK0.out _ _ (Reg.Known.mk_val rfl rfl) (fun _ _ h => h) hS0.out
                refine Reg.Steps.zip ?_ ?_
                · refine Reg.step_on rfl (fun u w h => h.plain rfl) ?_
                  intro a wi ki hf hd hS hc K hK
                  have e164 : a.tmps.getD 164 undef = .pointer (some ⟨ga, 0, none⟩) := hd.1.plain rfl
                  have e165 : a.tmps.getD 165 undef = .int .i64 by' := hd.2.1.plain rfl
                  clear hf hd
                  have HS := Lib.hid hS; clear hS
                  have hK0 := Lib.hid hK; clear hK hc
                  go_simp
                  obtain ⟨Y, hY, _⟩ := HS.out.ex
                  refine (fpCount hY by').mono ?_
                  rw [HCC.out]
                  rintro e wA ⟨rfl, rfl⟩
                  exact hK0.out _ _ (Reg.Known.mk_val rfl rfl) (fun _ _ h => h) HS.out
                refine Reg.Steps.zip ?_ ?_
                · refine Reg.step_on rfl (fun u w h => h.plain rfl) ?_
                  intro a wi ki hf hd hS hc K hK
                  have f8 : a.tmps.getD 8 undef = .pointer (some ⟨g, 0, none⟩) := hf.same 8 rfl
                  clear hf hd hc
                  have hK0 := Lib.hid hK; clear hK
                  have hS0 := Lib.hid hS; clear hS
                  go_simp
                  exact hK0.out _ _ (Reg.Known.mk_val rfl rfl) (fun _ _ h => h) hS0.out
                refine Reg.Steps.zip ?_ ?_
                · refine Reg.step_on rfl (fun u w h => h.plain rfl) ?_
                  intro a wi ki hf hd hS hc K hK
                  have f11 : a.tmps.getD 11 undef = .int .i64 by' := hf.same 11 rfl
                  clear hf hd hc
                  have hK0 := Lib.hid hK; clear hK
                  have hS0 := Lib.hid hS; clear hS
                  go_simp
                  exact hK0.out _ _ (Reg.Known.mk_val rfl rfl) (fun _ _ h => h) hS0.out
                refine Reg.Steps.zip ?_ ?_
                · refine Reg.step_on rfl (fun u w h => h.plain rfl) ?_
                  intro a wi ki hf hd hS hc K hK
                  have e167 : a.tmps.getD 167 undef = .pointer (some ⟨g, 0, none⟩) := hd.1.plain rfl
                  have e168 : a.tmps.getD 168 undef = .int .i64 by' := hd.2.1.plain rfl
                  clear hf hd
                  have HS := Lib.hid hS; clear hS
                  have hK0 := Lib.hid hK; clear hK hc
                  go_simp
                  obtain ⟨Y, hY, _⟩ := HS.out.ex
                  refine (fpCountR hY by').mono ?_
                  rw [HCC.out]
                  rintro e wA ⟨rfl, rfl⟩
                  exact hK0.out _ _ (Reg.Known.mk_val rfl rfl) (fun _ _ h => h) HS.out
                refine Reg.Steps.zip ?_ ?_
                · refine Reg.step_on rfl (fun u w h => h.plain rfl) ?_
                  intro a wi ki hf hd hS hc K hK
                  have e166 : a.tmps.getD 166 undef = .int .i64 (cc : Int) := hd.1.plain rfl
                  have e169 : a.tmps.getD 169 undef = .int .i64 (cc : Int) := hd.2.1.plain rfl
                  clear hf hd hc
                  have hK0 := Lib.hid hK; clear hK
                  have hS0 := Lib.hid hS; clear hS
                  go_simp
                  exact hK0.out _ _ (Reg.Known.mk_val rfl rfl) (fun _ _ h => h) hS0.out
                refine Reg.Steps.zip ?_ ?_
                · refine Reg.step_go rfl ?_
                  intro a wi ki hf hd hS hc K hK
                  have e163 : a.tmps.getD 163 undef = .bool false := hd.1.plain rfl
                  have e170 : a.tmps.getD 170 undef = .bool false := hd.2.1.plain rfl
                  clear hf hd hc
                  have hK0 := Lib.hid hK; clear hK
                  have hS0 := Lib.hid hS; clear hS
                  go_simp
                  exact hK0.out _ _ (Reg.Known.mk_val rfl rfl) (fun _ _ h => h) hS0.out
                refine Reg.Steps.zip ?_ ?_
                · refine Reg.step_go rfl ?_
                  intro a wi ki hf hd hS hc K hK
                  have e171 : a.tmps.getD 171 undef = .bool false := hd.1.plain rfl
                  clear hf hd hc
                  have hK0 := Lib.hid hK; clear hK
                  have hS0 := Lib.hid hS; clear hS
                  go_simp
                  exact hK0.out _ _ (Reg.Known.mk_val rfl rfl) (fun _ _ h => h) hS0.out
                refine Reg.Steps.zip ?_ ?_
                · refine Reg.step_on rfl (fun u w h => h.plain rfl) ?_
                  intro a wi ki hf hd hS hc K hK
                  have f7 : a.tmps.getD 7 undef = .pointer (some ⟨ga, 0, none⟩) := hf.same 7 rfl
                  clear hf hd hc
                  have hK0 := Lib.hid hK; clear hK
                  have hS0 := Lib.hid hS; clear hS
                  go_simp
                  exact hK0.out _ _ (Reg.Known.mk_val rfl rfl) (fun _ _ h => h) hS0.out
                refine Reg.Steps.zip ?_ ?_
                · refine Reg.step_on rfl (fun u w h => h.plain rfl) ?_
                  intro a wi ki hf hd hS hc K hK
                  have e173 : a.tmps.getD 173 undef = .pointer (some ⟨ga, 0, none⟩) := hd.1.plain rfl
                  clear hf hd
                  have HS := Lib.hid hS; clear hS
                  have hK0 := Lib.hid hK; clear hK hc
                  go_simp
                  obtain ⟨Y, hY, _⟩ := HS.out.ex
                  refine (fpAll hY).mono ?_
                  unfold FpA
                  rw [HN9.out]
                  rintro e wA ⟨bA, rfl, hTA, hKA, hBA⟩
                  exact hK0.out _ _ (Reg.Known.mk_other rfl ⟨bA, rfl, hTA⟩) (fun i u h => known_tab hBA h) (HS.out.later hBA)
                refine Reg.Steps.zip ?_ ?_
                · refine Reg.step_on rfl (fun u w h => h.plain rfl) ?_
                  intro a wi ki hf hd hS hc K hK
                  have f8 : a.tmps.getD 8 undef = .pointer (some ⟨g, 0, none⟩) := hf.same 8 rfl
                  clear hf hd hc
                  have hK0 := Lib.hid hK; clear hK
                  have hS0 := Lib.hid hS; clear hS
                  go_simp
                  exact hK0.out _ _ (Reg.Known.mk_val rfl rfl) (fun _ _ h => h) hS0.out
                refine Reg.Steps.zip ?_ ?_
                · refine Reg.step_on rfl (fun u w h => h.plain rfl) ?_
                  intro a wi ki hf hd hS hc K hK
                  have e175 : a.tmps.getD 175 undef = .pointer (some ⟨g, 0, none⟩) := hd.1.plain rfl
                  clear hf hd hc
                  have hK0 := Lib.hid hK; clear hK
                  have hS0 := Lib.hid hS; clear hS
                  go_simp
                  exact hK0.out _ _ (Reg.Known.mk_val rfl rfl) (fun _ _ h => h) hS0.out
                refine Reg.Steps.zip ?_ ?_
                · refine Reg.step_on rfl (fun u w h => h.plain rfl) ?_
                  intro a wi ki hf hd hS hc K hK
                  have e176 : a.tmps.getD 176 undef = .pointer (some ⟨g, 0, none⟩) := hd.1.plain rfl
                  clear hf hd hc
                  have hK0 := Lib.hid hK; clear hK
                  have hS0 := Lib.hid hS; clear hS
                  go_simp
                  exact hK0.out _ _ (Reg.Known.mk_val rfl rfl) (fun _ _ h => h) hS0.out
                refine Reg.Steps.zip ?_ ?_
                · refine Reg.step_on rfl (fun u w h => h.plain rfl) ?_
                  intro a wi ki hf hd hS hc K hK
                  have e177 : a.tmps.getD 177 undef = .pointer (some ⟨g, 1, none⟩) := hd.1.plain rfl
                  clear hf hd hc
                  have cgi : wi.cell? ⟨g, 1, none⟩ = some (.slice (some ⟨tb, 0, none⟩) N9 N9) := hS.cg
                  have hK0 := Lib.hid hK; clear hK
                  have hS0 := Lib.hid hS; clear hS
                  go_simp
                  exact hK0.out _ _ (Reg.Known.mk_val rfl rfl) (fun _ _ h => h) hS0.out
                refine Reg.Steps.zip ?_ ?_
                · refine Reg.step_on rfl (fun u w h => h.plain rfl) ?_
                  intro a wi ki hf hd hS hc K hK
                  have x174 := hd.1.other rfl
                  have e178 : a.tmps.getD 178 undef = .slice (some ⟨tb, 0, none⟩) N9 N9 := hd.2.1.plain rfl
                  clear hf hd
                  have y174 : ∃ bA, a.tmps.getD 174 undef = .slice (some ⟨bA, 0, none⟩) N9 N9 ∧ TabC wi bA LL := x174
                  clear x174
                  obtain ⟨bA, eA, hTA⟩ := y174
                  have HTA := Lib.hid hTA; clear hTA
                  have HS := Lib.hid hS; clear hS
                  have hK0 := Lib.hid hK; clear hK hc
                  go_simp
                  refine (HSM.out _ _ _ HTA.out HS.out.tb).mono ?_
                  rintro e wA ⟨rfl, nA, rfl⟩
                  exact hK0.out _ _ (Reg.Known.mk_val rfl rfl) (fun i u h => known_tab (below_drewN (Below.refl _ _) _) h) (HS.out.later (below_drewN (Below.refl _ _) _))
                refine Reg.Steps.zip ?_ ?_
                · refine Reg.step_on rfl (fun u w h => h.plain rfl) ?_
                  intro a wi ki hf hd hS hc K hK
                  have e179 : a.tmps.getD 179 undef = .bool true := hd.1.plain rfl
                  clear hf hd hc
                  have hK0 := Lib.hid hK; clear hK
                  have hS0 := Lib.hid hS; clear hS
                  go_simp
                  exact hK0.out _ _ (Reg.Known.mk_val rfl rfl) (fun _ _ h => h) hS0.out
                refine Reg.Steps.zip ?_ ?_
                · refine Reg.step_go rfl ?_
                  intro a wi ki hf hd hS hc K hK
                  have e172 : a.tmps.getD 172 undef = .bool false := hd.1.plain rfl
                  have e180 : a.tmps.getD 180 undef = .bool false := hd.2.1.plain rfl
                  clear hf hd hc
                  have hK0 := Lib.hid hK; clear hK
                  have hS0 := Lib.hid hS; clear hS
                  go_simp
                  exact hK0.out _ _ (Reg.Known.mk_val rfl rfl) (fun _ _ h => h) hS0.out
                exact Reg.Steps.nil
              case finish =>
                intro a8 w8 hf hd hS8
                obtain ⟨u, hu⟩ : ∃ u : Nat → Value, u = fun s => a8.tmps.getD s undef := ⟨_, rfl⟩
                have e181 : u 181 = .bool false := by rw [hu]; exact hd.1.plain rfl
                rw [hf.eq, ← hu]
                clear hf hu hd
                have S8 := Lib.hid hS8
                clear hS8 HS0
                simp (config := { maxSteps := 10000000 }) [Reg.filled, e181]
                clear e181
                go_wp2_with fail
                go_roundw
                case rel => exact ⟨j + 1, _, by omega, by go_num, S8.out.fk, HOPN.out⟩
                case measure => simp [intOf]; omega
          · have z230 : decide ((230 : Int) < x3) = false := by simpa using h230
            have ei := HIDN.out
            go_upto_region 19 with (fail)
            try rw [ei]
            clear ei
            go_upto_block 4 with (fail)
            go_cut [13, 14, 15, 16] from 82 to 142 (fun _ _ _ _ wx => ∃ Lx, Opn Lx ∧ FpK w wx ga g qs Lx Lx X)
            case first =>
              rcases HMM.out with em | em | em | em | em | em
              · have HM1 := Lib.hid (fpMake K5.out by' lb hbyb)
                have HM2 := Lib.hid (fun wq (h : FpK w wq ga g qs (mkL qs Ls by' ⟨lb, 0, 0, 0⟩) Ls X) => fpMakeR h by' lb hbyb)
                obtain ⟨im, him⟩ : ∃ y, mkId qs Ls by' = y := ⟨_, rfl⟩
                obtain ⟨bm, hbm⟩ : ∃ y, mkB qs Ls by' = y := ⟨_, rfl⟩
                rw [him, hbm] at HM1 HM2
                have r1 : (im != im) = false := bne_self_eq_false _
                have r2 : (bm != bm) = false := bne_self_eq_false _
                clear him hbm
                have el := HLB.out
                go_wp2_with fail
                refine HM1.out.mono ?_
                rintro e w7 ⟨rfl, h7⟩
                have hbx := HX.out 0 (Nat.le_refl _) w7 _ _ h7
                have q2 : w7.cell? ⟨wr.heap.size, 2, none⟩ = some (.int .u8 x2) := cell_blk hbx 2
                have HM3 := Lib.hid (HM2.out w7 h7)
                clear h7 hbx
                go_wp2_with fail
                refine HM3.out.mono ?_
                rintro e w8 ⟨rfl, h8⟩
                have K8 := Lib.hid h8
                clear h8 el
                go_wp2_with fail
                go_meet
                exact ⟨_, HOP.out.made by' lb, K8.out⟩
              · have HM1 := Lib.hid (fpMake K5.out by' lb hbyb)
                have HM2 := Lib.hid (fun wq (h : FpK w wq ga g qs (mkL qs Ls by' ⟨lb, 0, 0, 0⟩) Ls X) => fpMakeR h by' lb hbyb)
                obtain ⟨im, him⟩ : ∃ y, mkId qs Ls by' = y := ⟨_, rfl⟩
                obtain ⟨bm, hbm⟩ : ∃ y, mkB qs Ls by' = y := ⟨_, rfl⟩
                rw [him, hbm] at HM1 HM2
                have r1 : (im != im) = false := bne_self_eq_false _
                have r2 : (bm != bm) = false := bne_self_eq_false _
                clear him hbm
                have el := HLB.out
                go_wp2_with fail
                refine HM1.out.mono ?_
                rintro e w7 ⟨rfl, h7⟩
                have hbx := HX.out 0 (Nat.le_refl _) w7 _ _ h7
                have q2 : w7.cell? ⟨wr.heap.size, 2, none⟩ = some (.int .u8 x2) := cell_blk hbx 2
                have HM3 := Lib.hid (HM2.out w7 h7)
                clear h7 hbx
                go_wp2_with fail
                refine HM3.out.mono ?_
                rintro e w8 ⟨rfl, h8⟩
                have K8 := Lib.hid h8
                clear h8 el
                go_wp2_with fail
                go_meet
                exact ⟨_, HOP.out.made by' lb, K8.out⟩
              · have HM1 := Lib.hid (fpMake K5.out by' lb hbyb)
                have HM2 := Lib.hid (fun wq (h : FpK w wq ga g qs (mkL qs Ls by' ⟨lb, 0, 0, 0⟩) Ls X) => fpMakeR h by' lb hbyb)
                obtain ⟨im, him⟩ : ∃ y, mkId qs Ls by' = y := ⟨_, rfl⟩
                obtain ⟨bm, hbm⟩ : ∃ y, mkB qs Ls by' = y := ⟨_, rfl⟩
                rw [him, hbm] at HM1 HM2
                have r1 : (im != im) = false := bne_self_eq_false _
                have r2 : (bm != bm) = false := bne_self_eq_false _
                clear him hbm
                have el := HLB.out
                go_wp2_with fail
                refine HM1.out.mono ?_
                rintro e w7 ⟨rfl, h7⟩
                have hbx := HX.out 0 (Nat.le_refl _) w7 _ _ h7
                have q2 : w7.cell? ⟨wr.heap.size, 2, none⟩ = some (.int .u8 x2) := cell_blk hbx 2
                have HM3 := Lib.hid (HM2.out w7 h7)
                clear h7 hbx
                go_wp2_with fail
                refine HM3.out.mono ?_
                rintro e w8 ⟨rfl, h8⟩
                have K8 := Lib.hid h8
                clear h8 el
                go_wp2_with fail
                go_meet
                exact ⟨_, HOP.out.made by' lb, K8.out⟩
              · have HEQ := Lib.hid (HOP.out.keep HTB.out idn x4)
                have HS1 := Lib.hid (fun wq Lr (h : FpK w wq ga g qs Ls Lr X) => fpKeep h idn x4 (by omega))
                have HS2 := Lib.hid (fun wq La (h : FpK w wq ga g qs La Ls X) => fpKeepR h idn x4 (by omega))
                rw [HEQ.out.1] at HS2
                obtain ⟨Lx, hLx⟩ : ∃ y, endL Ls idn (keepF x4) = y := ⟨_, rfl⟩
                obtain ⟨bs, hbs⟩ : ∃ y, openB Ls idn = y := ⟨_, rfl⟩
                have HOX : Hid (Opn Lx) := Lib.hid (by rw [← hLx]; exact HEQ.out.2)
                rw [hLx, hbs] at HS1 HS2
                have r1 : (bs != bs) = false := bne_self_eq_false _
                have KD6 : Hid (FpK w w5.drew ga g qs Ls Ls X) := Lib.hid (K5.out.below ⟨rfl, rfl, rfl, Nat.le_refl _, fun _ _ => rfl⟩)
                have HEW : Hid (IntKind.i64.wrap x2 = x2) := Lib.hid (IntWalk.i64_in _ (by omega))
                clear hLx hbs
                go_wp2_with fail
                have ew := HEW.out
                go_region_law
                  (first
                    | (refine step_go rfl ?_; go_simp; (first | (with_reducible refine (HS1.out _ _ KR.out).mono ?_) | (with_reducible refine (HS1.out _ _ KD6.out).mono ?_)); rintro e wA ⟨rfl, hA⟩
                       have hbx := HX.out 0 (Nat.le_refl _) wA _ _ hA
                       have qA : wA.cell? ⟨wr.heap.size, 4, none⟩ = some (.int .i32 x4) := cell_blk hbx 4
                       first | (have KF : Hid (FpK w wA ga g qs Lx Lx X) := Lib.hid hA) | (have KA : Hid (FpK w wA ga g qs Lx Ls X) := Lib.hid hA)
                       clear hA hbx)
                    | (refine step_go rfl ?_; go_simp; (first | (with_reducible refine (HS2.out _ _ KA.out).mono ?_) | (with_reducible refine (HS2.out _ _ KD6.out).mono ?_)); rintro e wA ⟨rfl, hA⟩
                       have hbx := HX.out 0 (Nat.le_refl _) wA _ _ hA
                       have qA : wA.cell? ⟨wr.heap.size, 4, none⟩ = some (.int .i32 x4) := cell_blk hbx 4
                       first | (have KF : Hid (FpK w wA ga g qs Lx Lx X) := Lib.hid hA) | (have KR : Hid (FpK w wA ga g qs Ls Lx X) := Lib.hid hA)
                       clear hA hbx))
                all_goals
                  clear ew
                  go_wp2_with fail
                  go_meet
                  exact ⟨_, HOX.out, KF.out⟩
              · have HEQ := Lib.hid (HOP.out.brk HTB.out idn x2)
                have HS1 := Lib.hid (fun wq Lr (h : FpK w wq ga g qs Ls Lr X) => fpBreak h idn x2 (by omega))
                have HS2 := Lib.hid (fun wq La (h : FpK w wq ga g qs La Ls X) => fpBreakR h idn x2 (by omega))
                rw [HEQ.out.1] at HS2
                obtain ⟨Lx, hLx⟩ : ∃ y, endL Ls idn (breakF x2) = y := ⟨_, rfl⟩
                obtain ⟨bs, hbs⟩ : ∃ y, openB Ls idn = y := ⟨_, rfl⟩
                have HOX : Hid (Opn Lx) := Lib.hid (by rw [← hLx]; exact HEQ.out.2)
                rw [hLx, hbs] at HS1 HS2
                have r1 : (bs != bs) = false := bne_self_eq_false _
                have KD6 : Hid (FpK w w5.drew ga g qs Ls Ls X) := Lib.hid (K5.out.below ⟨rfl, rfl, rfl, Nat.le_refl _, fun _ _ => rfl⟩)
                have HEW : Hid (IntKind.i64.wrap x2 = x2) := Lib.hid (IntWalk.i64_in _ (by omega))
                clear hLx hbs
                go_wp2_with fail
                have ew := HEW.out
                go_region_law
                  (first
                    | (refine step_go rfl ?_; go_simp; (first | (with_reducible refine (HS1.out _ _ KR.out).mono ?_) | (with_reducible refine (HS1.out _ _ KD6.out).mono ?_)); rintro e wA ⟨rfl, hA⟩
                       have hbx := HX.out 0 (Nat.le_refl _) wA _ _ hA
                       have qA : wA.cell? ⟨wr.heap.size, 2, none⟩ = some (.int .u8 x2) := cell_blk hbx 2
                       first | (have KF : Hid (FpK w wA ga g qs Lx Lx X) := Lib.hid hA) | (have KA : Hid (FpK w wA ga g qs Lx Ls X) := Lib.hid hA)
                       clear hA hbx)
                    | (refine step_go rfl ?_; go_simp; (first | (with_reducible refine (HS2.out _ _ KA.out).mono ?_) | (with_reducible refine (HS2.out _ _ KD6.out).mono ?_)); rintro e wA ⟨rfl, hA⟩
                       have hbx := HX.out 0 (Nat.le_refl _) wA _ _ hA
                       have qA : wA.cell? ⟨wr.heap.size, 2, none⟩ = some (.int .u8 x2) := cell_blk hbx 2
                       first | (have KF : Hid (FpK w wA ga g qs Lx Lx X) := Lib.hid hA) | (have KR : Hid (FpK w wA ga g qs Ls Lx X) := Lib.hid hA)
                       clear hA hbx))
                all_goals
                  clear ew
                  go_wp2_with fail
                  go_meet
                  exact ⟨_, HOX.out, KF.out⟩
              · go_wp2_with fail
                go_meet
                exact ⟨_, HOP.out, K5.out⟩
            case rest =>
              obtain ⟨Lx, hO, hK⟩ := hcut
              have HOL := Lib.hid hO
              have KL := Lib.hid hK
              clear hO hK
              have HG1 := Lib.hid (fpGet KL.out idn (by omega))
              have HG2 := Lib.hid (fun wq X' (h : FpK w wq ga g qs Lx Lx X') => fpGetR h idn (by omega))
              unfold FpG at HG1 HG2
              obtain ⟨xg, hxg⟩ : ∃ y, itmZ Lx idn zF = y := ⟨_, rfl⟩
              obtain ⟨bg, hbg⟩ : ∃ y, isIn Lx idn = y := ⟨_, rfl⟩
              rw [hxg, hbg] at HG1 HG2
              unfold futA at HG1 HG2
              have HOPN : Hid (Opn Lx) := Lib.hid (HOL.out)
              obtain ⟨LL, hLL⟩ : ∃ y, Lx = y := ⟨_, rfl⟩
              rw [hLL] at HG1 HG2 HOPN
              clear hxg hbg hLL
              go_wp2_with fail
              refine HG1.out.mono ?_
              rintro e w20 ⟨rfl, h20⟩
              have K21 := Lib.hid (h20.add (.cells #[.int .i64 xg.lb, .int .i64 xg.st, .int .i32 xg.v, .int .i64 xg.code] 64))
              have HG3 := Lib.hid (HG2.out _ _ K21.out)
              clear h20
              go_wp2_with fail
              refine HG3.out.mono ?_
              rintro e w22 ⟨rfl, h22⟩
              obtain ⟨w23, hw23⟩ : ∃ y, y = w22.alloc (.cells #[.int .i64 xg.lb, .int .i64 xg.st, .int .i32 xg.v, .int .i64 xg.code] 64) := ⟨_, rfl⟩
              have h23 := h22.add (.cells #[.int .i64 xg.lb, .int .i64 xg.st, .int .i32 xg.v, .int .i64 xg.code] 64)
              rw [← hw23] at h23
              have K23 := Lib.hid h23
              have HW23 := Lib.hid hw23
              have hb1 := h23.box (List.mem_cons_of_mem _ List.mem_cons_self)
              have hb2 := h23.box List.mem_cons_self
              have u0 : w23.cell? ⟨w20.heap.size, 0, none⟩ = some (.int .i64 xg.lb) := cell_blk hb1 0
              have u1 : w23.cell? ⟨w20.heap.size, 1, none⟩ = some (.int .i64 xg.st) := cell_blk hb1 1
              have u2 : w23.cell? ⟨w20.heap.size, 2, none⟩ = some (.int .i32 xg.v) := cell_blk hb1 2
              have u3 : w23.cell? ⟨w20.heap.size, 3, none⟩ = some (.int .i64 xg.code) := cell_blk hb1 3
              have v0 : w23.cell? ⟨w22.heap.size, 0, none⟩ = some (.int .i64 xg.lb) := cell_blk hb2 0
              have v1 : w23.cell? ⟨w22.heap.size, 1, none⟩ = some (.int .i64 xg.st) := cell_blk hb2 1
              have v2 : w23.cell? ⟨w22.heap.size, 2, none⟩ = some (.int .i32 xg.v) := cell_blk hb2 2
              have v3 : w23.cell? ⟨w22.heap.size, 3, none⟩ = some (.int .i64 xg.code) := cell_blk hb2 3
              obtain ⟨hn16, hle, tb, cg, htab⟩ := h23.tab
              have hgl := World.block_lt_of_cell? w23 _ cg
              have KD := Lib.hid (h23.below (w' := w23.drew) ⟨rfl, rfl, rfl, Nat.le_refl _, fun _ _ => rfl⟩)
              have HC1 := Lib.hid (fpCount KD.out by')
              have HC2 := Lib.hid (fpCountR KD.out by')
              have HAL := Lib.hid (fpAll KD.out)
              have HSM := Lib.hid (fun (w' : World) (b1 b2 : Nat) (h1 : TabC w' b1 LL) (h2 : TabC w' b2 LL) => sameF_any h1 h2 hn16 hle)
              obtain ⟨cc, hcc⟩ : ∃ c : Nat, cntZ LL by' = c := ⟨_, rfl⟩
              rw [hcc] at HC1 HC2
              have HCG := Lib.hid cg
              obtain ⟨N9, hN9⟩ : ∃ n, LL.length = n := ⟨_, rfl⟩
              have HN9 := Lib.hid hN9
              rw [hN9] at cg HSM
              have s0 : (xg.lb == xg.lb) = true := beq_self_eq_true _
              have s1 : (xg.st == xg.st) = true := beq_self_eq_true _
              have s2 : (xg.v == xg.v) = true := beq_self_eq_true _
              have s3 : (xg.code == xg.code) = true := beq_self_eq_true _
              have s4 : (bg != bg) = false := bne_self_eq_false _
              have s5 : ((cc : Int) != (cc : Int)) = false := bne_self_eq_false _
              have HCG' : Hid (w23.drew.cell? ⟨g, 1, none⟩ = some (.slice (some ⟨tb, 0, none⟩) N9 N9)) := Lib.hid cg
              have HTAB : Hid (TabC w23.drew tb LL) := Lib.hid htab
              have HB1 : Hid (w23.drew.heap[w20.heap.size]? = some (.cells #[.int .i64 xg.lb, .int .i64 xg.st, .int .i32 xg.v, .int .i64 xg.code] 64 (0, 0))) := Lib.hid hb1
              have HB2 : Hid (w23.drew.heap[w22.heap.size]? = some (.cells #[.int .i64 xg.lb, .int .i64 xg.st, .int .i32 xg.v, .int .i64 xg.code] 64 (0, 0))) := Lib.hid hb2
              have HCC := Lib.hid hcc
              clear hcc hN9 h22 h23 hw23 hb1 hb2 htab hle hn16 HC1 HC2 HAL hgl
              go_wp2_with fail
              rw [← HW23.out]
              have HS0 : Hid (PzS w ga g tb N9 w20.heap.size w22.heap.size qs LL X #[.int .i64 xg.lb, .int .i64 xg.st, .int .i32 xg.v, .int .i64 xg.code] w23.drew) := Lib.hid ⟨⟨_, KD.out, fun p hp => List.mem_cons_of_mem _ (List.mem_cons_of_mem _ hp)⟩, HCG'.out, HTAB.out, HB1.out, HB2.out⟩
              refine Reg.wp_facts_sl [155, 156, 157, 158, 159, 160, 161, 162, 163, 164, 165, 166, 167, 168, 169, 170, 171, 172, 173, 174, 175, 176, 177, 178, 179, 180, 181] rfl [] [[], [], [(0, 155), (1, 156)], [(2, 157)], [], [], [(4, 159), (5, 160)], [(3, 158), (6, 161)], [(7, 162)], [], [], [(9, 164), (10, 165)], [], [], [(12, 167), (13, 168)], [(11, 166), (14, 169)], [(8, 163), (15, 170)], [(16, 171)], [], [(18, 173)], [], [(20, 175)], [(21, 176)], [(22, 177)], [(19, 174), (23, 178)], [(24, 179)], [(17, 172), (25, 180)]] [(26, 181)] (Reg.Known (fp35Val w20.heap.size w22.heap.size ga g tb N9 cc xg.lb xg.st xg.v xg.code by' bg) (XT N9 LL) [19]) (fun _ wi => PzS w ga g tb N9 w20.heap.size w22.heap.size qs LL X #[.int .i64 xg.lb, .int .i64 xg.st, .int .i32 xg.v, .int .i64 xg.code] wi) (by kernel_rfl) (by kernel_rfl) ?start ?steps ?finish
              case start => exact HS0.out
              case steps =>
                refine Reg.Steps.zip ?_ ?_
                · refine Reg.step_go rfl ?_
                  intro a wi ki hf hd hS hc K hK
                  have f17 : a.tmps.getD 17 undef = .pointer (some ⟨w20.heap.size, 0, none⟩) := hf.same 17 rfl
                  clear hf hd hc
                  have q0 : wi.cell? ⟨w20.heap.size, 0, none⟩ = some (.int .i64 xg.lb) := cell_blk hS.m1 0
                  have q1 : wi.cell? ⟨w20.heap.size, 1, none⟩ = some (.int .i64 xg.st) := cell_blk hS.m1 1
                  have q2 : wi.cell? ⟨w20.heap.size, 2, none⟩ = some (.int .i32 xg.v) := cell_blk hS.m1 2
                  have q3 : wi.cell? ⟨w20.heap.size, 3, none⟩ = some (.int .i64 xg.code) := cell_blk hS.m1 3
                  have hK0 := Lib.hid hK; clear hK
                  have hS0 := Lib.hid hS; clear hS
                  go_simp
                  exact hK0.out _ _ (Reg.Known.mk_val rfl rfl) (fun _ _ h => h) hS0.out
                refine Reg.Steps.zip ?_ ?_
                · refine Reg.step_go rfl ?_
                  intro a wi ki hf hd hS hc K hK
                  have f19 : a.tmps.getD 19 undef = .pointer (some ⟨w22.heap.size, 0, none⟩) := hf.same 19 rfl
                  clear hf hd hc
                  have q0 : wi.cell? ⟨w22.heap.size, 0, none⟩ = some (.int .i64 xg.lb) := cell_blk hS.m2 0
                  have q1 : wi.cell? ⟨w22.heap.size, 1, none⟩ = some (.int .i64 xg.st) := cell_blk hS.m2 1
                  have q2 : wi.cell? ⟨w22.heap.size, 2, none⟩ = some (.int .i32 xg.v) := cell_blk hS.m2 2
                  have q3 : wi.cell? ⟨w22.heap.size, 3, none⟩ = some (.int .i64 xg.code) := cell_blk hS.m2 3
                  have hK0 := Lib.hid hK; clear hK
                  have hS0 := Lib.hid hS; clear hS
                  go_simp
                  exact hK0.out _ _ (Reg.Known.mk_val rfl rfl) (fun _ _ h => h) hS0.out
                refine Reg.Steps.zip ?_ ?_
                · refine Reg.step_go rfl ?_
                  intro a wi ki hf hd hS hc K hK
                  have e155 : a.tmps.getD 155 undef = .agg #[.int .i64 xg.lb, .int .i64 xg.st, .int .i32 xg.v, .int .i64 xg.code] := hd.1.plain rfl
                  have e156 : a.tmps.getD 156 undef = .agg #[.int .i64 xg.lb, .int .i64 xg.st, .int .i32 xg.v, .int .i64 xg.code] := hd.2.1.plain rfl
                  clear hf hd hc
                  have hK0 := Lib.hid hK; clear hK
                  have hS0 := Lib.hid hS; clear hS
                  go_simp
                  exact hK0.out _ _ (Reg.Known.mk_val rfl rfl) (fun _ _ h => h) hS0.out
                refine Reg.Steps.zip ?_ ?_
                · refine Reg.step_go rfl ?_
                  intro a wi ki hf hd hS hc K hK
                  have e157 : a.tmps.getD 157 undef = .bool false := hd.1.plain rfl
                  clear hf hd hc
                  have hK0 := Lib.hid hK; clear hK
                  have hS0 := Lib.hid hS; clear hS
                  go_simp
                  exact hK0.out _ _ (Reg.Known.mk_val rfl rfl) (fun _ _ h => h) hS0.out
                refine Reg.Steps.zip ?_ ?_
                · refine Reg.step_on rfl (fun u w h => h.plain rfl) ?_
                  intro a wi ki hf hd hS hc K hK
                  have f18 : a.tmps.getD 18 undef = .bool bg := hf.same 18 rfl
                  clear hf hd hc
                  have hK0 := Lib.hid hK; clear hK
                  have hS0 := Lib.hid hS; clear hS
                  go_simp
                  exact hK0.out _ _ (Reg.Known.mk_val rfl rfl) (fun _ _ h => h) hS0.out
                refine Reg.Steps.zip ?_ ?_
                · refine Reg.step_on rfl (fun u w h => h.plain rfl) ?_
                  intro a wi ki hf hd hS hc K hK
                  have f20 : a.tmps.getD 20 undef = .bool bg := hf.same 20 rfl
                  clear hf hd hc
                  have hK0 := Lib.hid hK; clear hK
                  have hS0 := Lib.hid hS; clear hS
                  go_simp
                  exact hK0.out _ _ (Reg.Known.mk_val rfl rfl) (fun _ _ h => h) hS0.out
                refine Reg.Steps.zip ?_ ?_
                · refine Reg.step_on rfl (fun u w h => h.plain rfl) ?_
                  intro a wi ki hf hd hS hc K hK
                  have e159 : a.tmps.getD 159 undef = .bool bg := hd.1.plain rfl
                  have e160 : a.tmps.getD 160 undef = .bool bg := hd.2.1.plain rfl
                  clear hf hd hc
                  have hK0 := Lib.hid hK; clear hK
                  have hS0 := Lib.hid hS; clear hS
                  go_simp
                  exact hK0.out _ _ (Reg.Known.mk_val rfl rfl) (fun _ _ h => h) hS0.out
                refine Reg.Steps.zip ?_ ?_
                · refine Reg.step_go rfl ?_
                  intro a wi ki hf hd hS hc K hK
                  have e158 : a.tmps.getD 158 undef = .bool false := hd.1.plain rfl
                  have e161 : a.tmps.getD 161 undef = .bool false := hd.2.1.plain rfl
                  clear hf hd hc
                  have hK0 := Lib.hid hK; clear hK
                  have hS0 := Lib.hid hS; clear hS
                  go_simp
                  exact hK0.out _ _ (Reg.Known.mk_val rfl rfl) (fun _ _ h => h) hS0.out
                refine Reg.Steps.zip ?_ ?_
                · refine Reg.step_go rfl ?_
                  intro a wi ki hf hd hS hc K hK
                  have e162 : a.tmps.getD 162 undef = .bool false := hd.1.plain rfl
                  clear hf hd hc
                  have hK0 := Lib.hid hK; clear hK
                  have hS0 := Lib.hid hS; clear hS
                  go_simp
                  exact hK0.out _ _ (Reg.Known.mk_val rfl rfl) (fun _ _ h => h) hS0.out
                refine Reg.Steps.zip ?_ ?_
                · refine Reg.step_on rfl (fun u w h => h.plain rfl) ?_
                  intro a wi ki hf hd hS hc K hK
                  have f7 : a.tmps.getD 7 undef = .pointer (some ⟨ga, 0, none⟩) := hf.same 7 rfl
                  clear hf hd hc
                  have hK0 := Lib.hid hK; clear hK
                  have hS0 := Lib.hid hS; clear hS
                  go_simp
                  exact hK0.out _ _ (Reg.Known.mk_val rfl rfl) (fun _ _ h => h) hS0.out
                refine Reg.Steps.zip ?_ ?_
                · refine Reg.step_on rfl (fun u w h => h.plain rfl) ?_
                  intro a wi ki hf hd hS hc K hK
                  have f11 : a.tmps.getD 11 undef = .int .i64 by' := hf.same 11 rfl
                  clear hf hd hc
                  have hK0 := Lib.hid hK; clear hK
                  have hS0 := Lib.hid hS; clear hS
                  go_simp
                  exact hK0.out _ _ (Reg.Known.mk_val rfl rfl) (fun _ _ h => h) hS0.out
                refine Reg.Steps.zip ?_ ?_
                · refine Reg.step_on rfl (fun u w h => h.plain rfl) ?_
                  intro a wi ki hf hd hS hc K hK
                  have e164 : a.tmps.getD 164 undef = .pointer (some ⟨ga, 0, none⟩) := hd.1.plain rfl
                  have e165 : a.tmps.getD 165 undef = .int .i64 by' := hd.2.1.plain rfl
                  clear hf hd
                  have HS := Lib.hid hS; clear hS
                  have hK0 := Lib.hid hK; clear hK hc
                  go_simp
                  obtain ⟨Y, hY, _⟩ := HS.out.ex
                  refine (fpCount hY by').mono ?_
                  rw [HCC.out]
                  rintro e wA ⟨rfl, rfl⟩
                  exact hK0.out _ _ (Reg.Known.mk_val rfl rfl) (fun _ _ h => h) HS.out
                refine Reg.Steps.zip ?_ ?_
                · refine Reg.step_on rfl (fun u w h => h.plain rfl) ?_
                  intro a wi ki hf hd hS hc K hK
                  have f8 : a.tmps.getD 8 undef = .pointer (some ⟨g, 0, none⟩) := hf.same 8 rfl
                  clear hf hd hc
                  have hK0 := Lib.hid hK; clear hK
                  have hS0 := Lib.hid hS; clear hS
                  go_simp
                  exact hK0.out _ _ (Reg.Known.mk_val rfl rfl) (fun _ _ h => h) hS0.out
                refine Reg.Steps.zip ?_ ?_
                · refine Reg.step_on rfl (fun u w h => h.plain rfl) ?_
                  intro a wi ki hf hd hS hc K hK
                  have f11 : a.tmps.getD 11 undef = .int .i64 by' := hf.same 11 rfl
                  clear hf hd hc
                  have hK0 := Lib.hid hK; clear hK
                  have hS0 := Lib.hid hS; clear hS
                  go_simp
                  exact hK0.out _ _ (Reg.Known.mk_val rfl rfl) (fun _ _ h => h) hS0.out
                refine Reg.Steps.zip ?_ ?_
                · refine Reg.step_on rfl (fun u w h => h.plain rfl) ?_
                  intro a wi ki hf hd hS hc K hK
                  have e167 : a.tmps.getD 167 undef = .pointer (some ⟨g, 0, none⟩) := hd.1.plain rfl
                  have e168 : a.tmps.getD 168 undef = .int .i64 by' := hd.2.1.plain rfl
                  clear hf hd
                  have HS := Lib.hid hS; clear hS
                  have hK0 := Lib.hid hK; clear hK hc
                  go_simp
                  obtain ⟨Y, hY, _⟩ := HS.out.ex
                  refine (fpCountR hY by').mono ?_
                  rw [HCC.out]
                  rintro e wA ⟨rfl, rfl⟩
                  exact hK0.out _ _ (Reg.Known.mk_val rfl rfl) (fun _ _ h => h) HS.out
                refine Reg.Steps.zip ?_ ?_
                · refine Reg.step_on rfl (fun u w h => h.plain rfl) ?_
                  intro a wi ki hf hd hS hc K hK
                  have e166 : a.tmps.getD 166 undef = .int .i64 (cc : Int) := hd.1.plain rfl
                  have e169 : a.tmps.getD 169 undef = .int .i64 (cc : Int) := hd.2.1.plain rfl
                  clear hf hd hc
                  have hK0 := Lib.hid hK; clear hK
                  have hS0 := Lib.hid hS; clear hS
                  go_simp
                  exact hK0.out _ _ (Reg.Known.mk_val rfl rfl) (fun _ _ h => h) hS0.out
                refine Reg.Steps.zip ?_ ?_
                · refine Reg.step_go rfl ?_
                  intro a wi ki hf hd hS hc K hK
                  have e163 : a.tmps.getD 163 undef = .bool false := hd.1.plain rfl
                  have e170 : a.tmps.getD 170 undef = .bool false := hd.2.1.plain rfl
                  clear hf hd hc
                  have hK0 := Lib.hid hK; clear hK
                  have hS0 := Lib.hid hS; clear hS
                  go_simp
                  exact hK0.out _ _ (Reg.Known.mk_val rfl rfl) (fun _ _ h => h) hS0.out
                refine Reg.Steps.zip ?_ ?_
                · refine Reg.step_go rfl ?_
                  intro a wi ki hf hd hS hc K hK
                  have e171 : a.tmps.getD 171 undef = .bool false := hd.1.plain rfl
                  clear hf hd hc
                  have hK0 := Lib.hid hK; clear hK
                  have hS0 := Lib.hid hS; clear hS
                  go_simp
                  exact hK0.out _ _ (Reg.Known.mk_val rfl rfl) (fun _ _ h => h) hS0.out
                refine Reg.Steps.zip ?_ ?_
                · refine Reg.step_on rfl (fun u w h => h.plain rfl) ?_
                  intro a wi ki hf hd hS hc K hK
                  have f7 : a.tmps.getD 7 undef = .pointer (some ⟨ga, 0, none⟩) := hf.same 7 rfl
                  clear hf hd hc
                  have hK0 := Lib.hid hK; clear hK
                  have hS0 := Lib.hid hS; clear hS
                  go_simp
                  exact hK0.out _ _ (Reg.Known.mk_val rfl rfl) (fun _ _ h => h) hS0.out
                refine Reg.Steps.zip ?_ ?_
                · refine Reg.step_on rfl (fun u w h => h.plain rfl) ?_
                  intro a wi ki hf hd hS hc K hK
                  have e173 : a.tmps.getD 173 undef = .pointer (some ⟨ga, 0, none⟩) := hd.1.plain rfl
                  clear hf hd
                  have HS := Lib.hid hS; clear hS
                  have hK0 := Lib.hid hK; clear hK hc
                  go_simp
                  obtain ⟨Y, hY, _⟩ := HS.out.ex
                  refine (fpAll hY).mono ?_
                  unfold FpA
                  rw [HN9.out]
                  rintro e wA ⟨bA, rfl, hTA, hKA, hBA⟩
                  exact hK0.out _ _ (Reg.Known.mk_other rfl ⟨bA, rfl, hTA⟩) (fun i u h => known_tab hBA h) (HS.out.later hBA)
                refine Reg.Steps.zip ?_ ?_
                · refine Reg.step_on rfl (fun u w h => h.plain rfl) ?_
                  intro a wi ki hf hd hS hc K hK
                  have f8 : a.tmps.getD 8 undef = .pointer (some ⟨g, 0, none⟩) := hf.same 8 rfl
                  clear hf hd hc
                  have hK0 := Lib.hid hK; clear hK
                  have hS0 := Lib.hid hS; clear hS
                  go_simp
                  exact hK0.out _ _ (Reg.Known.mk_val rfl rfl) (fun _ _ h => h) hS0.out
                refine Reg.Steps.zip ?_ ?_
                · refine Reg.step_on rfl (fun u w h => h.plain rfl) ?_
                  intro a wi ki hf hd hS hc K hK
                  have e175 : a.tmps.getD 175 undef = .pointer (some ⟨g, 0, none⟩) := hd.1.plain rfl
                  clear hf hd hc
                  have hK0 := Lib.hid hK; clear hK
                  have hS0 := Lib.hid hS; clear hS
                  go_simp
                  exact hK0.out _ _ (Reg.Known.mk_val rfl rfl) (fun _ _ h => h) hS0.out
                refine Reg.Steps.zip ?_ ?_
                · refine Reg.step_on rfl (fun u w h => h.plain rfl) ?_
                  intro a wi ki hf hd hS hc K hK
                  have e176 : a.tmps.getD 176 undef = .pointer (some ⟨g, 0, none⟩) := hd.1.plain rfl
                  clear hf hd hc
                  have hK0 := Lib.hid hK; clear hK
                  have hS0 := Lib.hid hS; clear hS
                  go_simp
                  exact hK0.out _ _ (Reg.Known.mk_val rfl rfl) (fun _ _ h => h) hS0.out
                refine Reg.Steps.zip ?_ ?_
                · refine Reg.step_on rfl (fun u w h => h.plain rfl) ?_
                  intro a wi ki hf hd hS hc K hK
                  have e177 : a.tmps.getD 177 undef = .pointer (some ⟨g, 1, none⟩) := hd.1.plain rfl
                  clear hf hd hc
                  have cgi : wi.cell? ⟨g, 1, none⟩ = some (.slice (some ⟨tb, 0, none⟩) N9 N9) := hS.cg
                  have hK0 := Lib.hid hK; clear hK
                  have hS0 := Lib.hid hS; clear hS
                  go_simp
                  exact hK0.out _ _ (Reg.Known.mk_val rfl rfl) (fun _ _ h => h) hS0.out
                refine Reg.Steps.zip ?_ ?_
                · refine Reg.step_on rfl (fun u w h => h.plain rfl) ?_
                  intro a wi ki hf hd hS hc K hK
                  have x174 := hd.1.other rfl
                  have e178 : a.tmps.getD 178 undef = .slice (some ⟨tb, 0, none⟩) N9 N9 := hd.2.1.plain rfl
                  clear hf hd
                  have y174 : ∃ bA, a.tmps.getD 174 undef = .slice (some ⟨bA, 0, none⟩) N9 N9 ∧ TabC wi bA LL := x174
                  clear x174
                  obtain ⟨bA, eA, hTA⟩ := y174
                  have HTA := Lib.hid hTA; clear hTA
                  have HS := Lib.hid hS; clear hS
                  have hK0 := Lib.hid hK; clear hK hc
                  go_simp
                  refine (HSM.out _ _ _ HTA.out HS.out.tb).mono ?_
                  rintro e wA ⟨rfl, nA, rfl⟩
                  exact hK0.out _ _ (Reg.Known.mk_val rfl rfl) (fun i u h => known_tab (below_drewN (Below.refl _ _) _) h) (HS.out.later (below_drewN (Below.refl _ _) _))
                refine Reg.Steps.zip ?_ ?_
                · refine Reg.step_on rfl (fun u w h => h.plain rfl) ?_
                  intro a wi ki hf hd hS hc K hK
                  have e179 : a.tmps.getD 179 undef = .bool true := hd.1.plain rfl
                  clear hf hd hc
                  have hK0 := Lib.hid hK; clear hK
                  have hS0 := Lib.hid hS; clear hS
                  go_simp
                  exact hK0.out _ _ (Reg.Known.mk_val rfl rfl) (fun _ _ h => h) hS0.out
                refine Reg.Steps.zip ?_ ?_
                · refine Reg.step_go rfl ?_
                  intro a wi ki hf hd hS hc K hK
                  have e172 : a.tmps.getD 172 undef = .bool false := hd.1.plain rfl
                  have e180 : a.tmps.getD 180 undef = .bool false := hd.2.1.plain rfl
                  clear hf hd hc
                  have hK0 := Lib.hid hK; clear hK
                  have hS0 := Lib.hid hS; clear hS
                  go_simp
                  exact hK0.out _ _ (Reg.Known.mk_val rfl rfl) (fun _ _ h => h) hS0.out
                exact Reg.Steps.nil
              case finish =>
                intro a8 w8 hf hd hS8
                obtain ⟨u, hu⟩ : ∃ u : Nat → Value, u = fun s => a8.tmps.getD s undef := ⟨_, rfl⟩
                have e181 : u 181 = .bool false := by rw [hu]; exact hd.1.plain rfl
                rw [hf.eq, ← hu]
                clear hf hu hd
                have S8 := Lib.hid hS8
                clear hS8 HS0
                simp (config := { maxSteps := 10000000 }) [Reg.filled, e181]
                clear e181
                go_wp2_with fail
                go_roundw
                case rel => exact ⟨j + 1, _, by omega, by go_num, S8.out.fk, HOPN.out⟩
                case measure => simp [intOf]; omega
        · obtain rfl : N1 = j := by omega
          have HF : Hid (Below w.heap.size w wr) := Lib.hid hK.bl
          clear hK
          go_wp2_with fail
          go_ret
          exact ⟨rfl, HF.out⟩

/- The claim. -/

set_option maxRecDepth 100000 in
theorem lifted (os : Os) (started : os.Started) (H : Type) (enc : TypeId × Value → H) :
    ReturnsInHanded {} Try.checked os 7 .any (Rows.futurePlaysSpec.pre6 enc Try.prog Try.f7 Rows.futurePlaysRow.domain false) (Rows.futurePlaysSpec.post enc Try.prog Try.f7 false true false false) := by
  refine returnsInHanded_of_change (C := Try.checked) ownKnobs started (by kernel_rfl) Try.func7
    (ChangeSpec.witness6 (enc := enc) (C := Try.checked) false ⟨#[], #[.slice none 0 0, .slice none 0 0], []⟩ 8 (by kernel_rfl) (by kernel_rfl) (by kernel_rfl) (by kernel_rfl)) ?_
  intro W base args ds gs before hval hW _ _
  refine law_contract rfl rfl (fun ds h => by match ds, h with | [d1, d2], _ => rfl) (by decide +kernel) hW ?_
  obtain ⟨p, q, hA0, _⟩ := hW
  have hA : DataW.TrodAll enc Try.prog W 0 (fun _ => true) true Try.f7.params.toList args.toList ds p := hA0
  have hval' : ∀ (j : Nat) t v, Try.f7.params[j]? = some t → args[j]? = some v → Value.okWide Try.prog W .any base t v := hval
  rw [Try.params7] at hA hval'
  obtain ⟨v0, vs0, d0, ds0, p0, q0, hargs, rfl, rfl, h0, r0⟩ := trodAll_cons hA
  obtain ⟨v1, vs1, d1, ds1, p1, q1, rfl, rfl, rfl, h1, r1⟩ := trodAll_cons r0
  obtain ⟨rfl, rfl, rfl⟩ := trodAll_nil r1
  obtain rfl : args = #[v0, v1] := by cases args; simp_all
  obtain ⟨l0, h0, m0, x0⟩ := open_list (hval' 0 _ v0 rfl rfl) h0
  obtain ⟨l1, h1, m1⟩ := open_rowsS [.u8, .u8, .u8, .u8, .i32, .i32] Try.underlying54 Try.underlying59 (by kernel_rfl) (by kernel_rfl) (by kernel_rfl) (by decide) (hval' 1 _ v1 rfl rfl) h1
  exact walk v0 l0 v1 l1 W h0 m0 x0 h1 m1

theorem proved : Rows.FuturePlaysSaid :=
  OpenClaim.holds_of_wide 7 Try.f7 rfl rfl rfl rfl rfl rfl rfl ⟨rfl, rfl, rfl, rfl, rfl⟩ rfl rfl rfl rfl rfl (by kernel_rfl) Try.func7 (by kernel_rfl)
    (of_decide_eq_true (by kernel_rfl)) (by unfold Func.isWrapper; first | (rw [if_pos (by decide +kernel)]; kernel_rfl) | (rw [if_neg (by decide +kernel)]; exact ⟨rfl, rfl⟩))
    (fun os started H enc _ => lifted os started H enc)

end Go.Proofs.Ytboelofkbhgmfaa.futurePlays
