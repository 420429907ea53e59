/- RingPlays returns true for every input and changes nothing: for every sequence of pushes, pops, thefts and halves the results and the tasks left are the documented ones. No condition. -/
import Derived.Test.YtlmbjnegajiphaaRq15
import Derived.Test.YtlmbjnegajiphaaKnown15
import Derived.Test.YtlmbjnegajiphaaBytV
import Derived.Test.YtlmbjnegajiphaaRegion
import Derived.Test.YtlmbjnegajiphaaLaw
import Derived.IntWalk
import Derived.Deep.QuietTactic
import Derived.BigQuiet
import Derived.Deep.CutRange
import Derived.Deep.CutBlock
namespace Go.Proofs.Ytlmbjnegajiphaa.ringPlays
set_option maxRecDepth 100000
open Go.RowKit Go.ChangeShapes Go.WideShapes Go.ChangeAt

theorem quiet_flip {f : FuncId} {args : Array Value} {w : World} {v : Value} (h : Calls Try.prog f args w fun e w' => e = .returned v ∧ w = w') : Calls Try.prog f args w fun e w' => e = .returned v ∧ w' = w :=
  h.mono fun _ _ ⟨he, hw⟩ => ⟨he, hw.symm⟩
/-- The tasks of this law: a number, a worker, and the number as the stack. -/
def tkR (j k : Int) : TK := { zT with id := j, wk := k, st := [j] }
theorem push_lit {w wr : World} {a b R bs : Nat} {Mp Mr : List TK} {X : List (Nat × Obj)} (j k : Int) (h : RqK w wr a b R Mp Mr X) (hx : (bs, Obj.cells #[.int .i32 j] 21 (0, 0)) ∈ X) :
    Calls Try.prog 39 #[.pointer (some ⟨a, 0, none⟩), .agg #[.int .i32 j, .int .i64 0, .int .i64 0, .slice (some ⟨bs, 0, none⟩) 1 1, .int .i32 0, .int .i32 0, .int .i32 0, .int .i32 0, .int .i64 0, .int .i64 0, .int .u32 0, .int .i64 k]] wr (RqB w a b R (pushM R Mp (tkR j k)) Mr X (decide (Mp.length < R))) := rqPush (t := tkR j k) h hx rfl
theorem pushR_lit {w wr : World} {a b R bs : Nat} {Mp Mr : List TK} {X : List (Nat × Obj)} (j k : Int) (h : RqK w wr a b R Mp Mr X) (hM : Mr.length ≤ 100) (hx : (bs, Obj.cells #[.int .i32 j] 21 (0, 0)) ∈ X) :
    Calls Try.prog 40 #[.pointer (some ⟨b, 0, none⟩), .agg #[.int .i32 j, .int .i64 0, .int .i64 0, .slice (some ⟨bs, 0, none⟩) 1 1, .int .i32 0, .int .i32 0, .int .i32 0, .int .i32 0, .int .i64 0, .int .i64 0, .int .u32 0, .int .i64 k]] wr (RqB w a b R Mp (pushM R Mr (tkR j k)) X (decide (Mr.length < R))) := rqPushR (t := tkR j k) h hM hx rfl
theorem rq_start {w w3 w4 : World} {a b R : Nat} {S : Nat → Prop} (h1 : RgV w3 S a R []) (hb3 : Below w.heap.size w w3) (hS : ∀ i, S i → w.heap.size ≤ i) (h2 : RrV w4 (fun k => k = b) b R []) (hb : w3.heap.size ≤ b) (hb4 : Below w3.heap.size w3 w4) : RqK w w4 a b R [] [] [] :=
  ⟨⟨S, fun k => k = b, h1.below hb4, h2, (fun i hi e => by have := h1.lt i hi; omega), hS, (fun i e => by have := hb3.size; omega), fun p hp => by cases hp⟩, hb3.trans (hb4.mono hb3.size)⟩
/-- What the last test of a round reads, whatever else has been carried out. -/
structure RzS (w : World) (a b R n c2 : Nat) (A2 : Option Addr) (M : List TK) (L2 : List SlotX) (wi : World) : Prop where
  k : RqK w wi a b R M M []
  cb : wi.cell? ⟨b, 1, none⟩ = some (.slice A2 n c2)
  tv : TasksV wi (.slice A2 n c2) L2
theorem RzS.later {w wi w' : World} {a b R n c2 : Nat} {A2 : Option Addr} {M : List TK} {L2 : List SlotX} (h : RzS w a b R n c2 A2 M L2 wi) (hb : Below wi.heap.size wi w') : RzS w a b R n c2 A2 M L2 w' :=
  ⟨h.k.below hb, (hb.cell (p := ⟨b, 1, none⟩) (World.block_lt_of_cell? wi _ h.cb)).trans h.cb, h.tv.later hb⟩
def XR (M : List TK) (n : Nat) (_ : Nat) (v : Value) (w : World) : Prop := ∃ A c L, v = .slice A n c ∧ TasksV w (.slice A n c) L ∧ L.map Prod.fst = M
theorem known_list {val : Nat → Value} {n : Nat} {M : List TK} {sp : List Nat} {j : Nat} {u : Value} {w w' : World} (hb : Below w.heap.size w w') (h : Reg.Known val (XR M n) sp j u w) : Reg.Known val (XR M n) sp j u w' :=
  ⟨h.plain, fun hc => by obtain ⟨A, c, L, e, ht, hm⟩ := h.other hc; exact ⟨A, c, L, e, ht.later hb, hm⟩⟩
def rg35Val (ga b n c2 : Nat) (A2 : Option Addr) : Nat → Value
  | 0 => .pointer (some ⟨ga, 0, none⟩)
  | 1 => .int .i64 (n : Int)
  | 2 => .pointer (some ⟨b, 0, none⟩)
  | 3 => .pointer (some ⟨b, 0, none⟩)
  | 4 => .pointer (some ⟨b, 1, none⟩)
  | 5 => .slice A2 n c2
  | 6 => .int .i64 (n : Int)
  | 7 => .bool false
  | 8 => .bool false
  | 9 => .pointer (some ⟨ga, 0, none⟩)
  | 11 => .pointer (some ⟨b, 0, none⟩)
  | 12 => .pointer (some ⟨b, 0, none⟩)
  | 13 => .pointer (some ⟨b, 1, none⟩)
  | 14 => .slice A2 n c2
  | 15 => .bool true
  | 16 => .bool false
  | 17 => .bool false
  | _ => undef

set_option maxRecDepth 100000 in
set_option maxHeartbeats 40000000 in
theorem walk (x : Int) (v1 : Value) (l1 : List Int) (w : World) (hv : BytV w w.heap.size v1 l1) (hmx : l1.length ≤ maxLen) (hy : IsByt l1) :
    Calls Try.prog 6 #[.int .i64 x, v1] w fun e w' => e = .returned (.bool true) ∧ Below w.heap.size w w' := by
  obtain ⟨A1, c1, rfl, _, hL1⟩ := hv
  obtain ⟨N1, hN1⟩ : ∃ N, l1.length = N := ⟨_, rfl⟩
  have HN1 := Lib.hid hN1
  have HL1 := Lib.hid hL1
  have HY1 := Lib.hid hy
  rw [hN1] at hmx ⊢
  unfold maxLen at hmx
  clear hL1 hN1 hy
  by_cases h100 : 100 < N1
  · have z' : decide ((100 : Int) < (N1 : Int)) = true := by simp; omega
    go_enter Try.func6, Try.ntmps6
    go_wp2_with fail
    refine (known15_any w).mono ?_
    rintro e w1 ⟨rfl, hb1⟩
    go_wp2_with fail
    go_ret
    exact ⟨rfl, hb1⟩
  have z' : decide ((100 : Int) < (N1 : Int)) = false := by simp; omega
  have hN100 : N1 ≤ 100 := by omega
  obtain ⟨x2, hx2⟩ : ∃ y, bits .and .i64 x 7 = y := ⟨_, rfl⟩
  clear h100 hmx
  go_enter Try.func6, Try.ntmps6
  go_wp2_with fail
  refine (known15_any w).mono ?_
  rintro e w1 ⟨rfl, hb1⟩
  have B1 := Lib.hid hb1
  clear hb1
  go_wp2_with fail
  have HP : Hid ((w1.alloc (.cells #[.int .i64 x, .int .i64 x2] 3)).heap[w1.heap.size]? = some (.cells #[.int .i64 x, .int .i64 x2] 3 (0, 0))) := Lib.hid (heap_alloc_new w1 _)
  obtain ⟨wp, hwp⟩ : ∃ wp, wp = w1.alloc (.cells #[.int .i64 x, .int .i64 x2] 3) := ⟨_, rfl⟩
  try rw [hx2]
  rw [← hwp] at HP ⊢
  have BP : Hid (Below w.heap.size w wp) := Lib.hid (by rw [hwp]; exact nextB B1.out (below_alloc w1 _))
  have hsp : w1.heap.size < wp.heap.size := by rw [hwp]; simp
  clear hwp hx2 z'
  go_loopw [29] (fun i wr => ∃ j : Nat, j ≤ 2 ∧ i = .int .i64 j ∧ Below wp.heap.size wp wr) (fun i _ => 2 - (intOf i).toNat)
  case atStart => exact ⟨0, by omega, rfl, Below.refl _ _⟩
  case round =>
    obtain ⟨j, hj, rfl, hb⟩ := hrel
    rename World => wo
    have HB := Lib.hid hb
    by_cases hjk : j < 2
    · obtain ⟨y, hc0⟩ : ∃ (y : Int), wo.cell? ⟨w1.heap.size, j, none⟩ = some (.int .i64 y) := by
        have hq := (hb.block _ hsp).trans HP.out
        rcases (show j = 0 ∨ j = 1 by omega) with rfl | rfl
        · exact ⟨x, cell_blk hq 0⟩
        · exact ⟨x2, cell_blk hq 1⟩
      obtain ⟨R, hR⟩ : ∃ R, roomZ y = R := ⟨_, rfl⟩
      have i1 : (0 : Int) ≤ (j : Int) ∧ (j : Int) < 2 := by omega
      have HVN := Lib.hid (vNew_any wo y)
      have HRN := Lib.hid (fun w' => rrNew_any w' y)
      rw [hR] at HVN
      simp only [hR] at HRN
      have HJ2 : Hid (decide ((j : Int) < 2) = true) := Lib.hid (by simpa using i1.2)
      clear hb hR
      go_wp2_with fail
      refine HVN.out.mono ?_
      rintro e w3 ⟨ga, S, rfl, hr, hb3, hS⟩
      have HR3 := Lib.hid hr
      have HS3 := Lib.hid hS
      have HB3 := Lib.hid hb3
      clear hr hS hb3 HVN
      go_wp2_with fail
      refine (HRN.out w3).mono ?_
      rintro e w4 ⟨b, rfl, hr4, hbb, hb4⟩
      have K4 := Lib.hid (rq_start HR3.out HB3.out HS3.out hr4 hbb hb4)
      have HBB : Hid (∀ w', Below wo.heap.size wo w' → Below w.heap.size w w') := Lib.hid fun w' h => nextB (nextB BP.out HB.out) h
      have HBP : Hid (∀ w', Below wo.heap.size wo w' → Below wp.heap.size wp w') := Lib.hid fun w' h => nextB HB.out h
      clear hr4 hbb hb4 HR3 HS3 HB3 HRN
      have HQR := Lib.hid (fun n => quiet_flip (rqRoom (K4.out.below (below_drewN (Below.refl _ _) n))))
      have q0 := K4.out.list.2.1
      have sR : ((R : Int) != (R : Int)) = false := bne_self_eq_false _
      have K4N := Lib.hid (fun n => K4.out.below (below_drewN (Below.refl _ _) n))
      go_wp2_with fail
      go_quiet ((go_at_call 38; with_reducible exact Calls.quiet_of_same (HQR.out _)))
      clear q0 sR K4 HQR hc0
      go_wp2_with fail
      go_loopw [9] (fun i wq => ∃ (m : Nat) (M : List TK), m ≤ N1 ∧ i = .int .i64 m ∧ RqK wo wq ga b R M M [] ∧ MR M) (fun i _ => N1 - (intOf i).toNat)
      case atStart => exact ⟨0, [], Nat.zero_le _, rfl, K4N.out _, fun t ht => by cases ht⟩
      case round =>
        clear K4N
        obtain ⟨m, M, hm, rfl, hK, hM⟩ := hrel
        have HK := Lib.hid hK
        have HM := Lib.hid hM
        have hl64 : M.length ≤ 64 := by have := hK.len; omega
        by_cases hmn : m < N1
        · have hml : m < l1.length := by rw [HN1.out]; exact hmn
          obtain ⟨bo, off, eA, hbo, t0⟩ := lie_u8 HL1.out hml
          subst eA
          have hzb := HY1.out _ (List.getElem_mem hml)
          have d0 : wr.cell? ⟨bo, off + m, none⟩ = some (.int .u8 l1[m]) := ((HBB.out _ hK.bl).cell (p := ⟨bo, off + m, none⟩) hbo).trans t0
          generalize l1[m] = z at *
          have i2 : (0 : Int) ≤ (m : Int) ∧ (m : Int) < N1 := by omega
          have HMM : Hid (z % 8 = 0 ∨ z % 8 = 1 ∨ z % 8 = 2 ∨ z % 8 = 3 ∨ z % 8 = 4 ∨ z % 8 = 5 ∨ z % 8 = 6 ∨ z % 8 = 7) := Lib.hid (by omega)
          clear hK hM hml hbo t0
          go_upto_region 14 with (fail)
          go_upto_block 4 with (fail)
          go_cut [10, 11, 12, 13, 14, 15, 16, 17, 18] from 54 to 127 (fun _ _ _ _ _ _ _ _ _ wx => ∃ Mx : List TK, MR Mx ∧ RqK wo wx ga b R Mx Mx [])
          case first =>
            rcases HMM.out with em | em | em | em | em | em | em | em
            · obtain ⟨k8, hk8⟩ : ∃ y, z / 8 = y := ⟨_, rfl⟩
              have HK8 := Lib.hid hk8
              have hk8b : 0 ≤ k8 ∧ k8 ≤ 31 := by omega
              have HZ6 : Hid (((wr.alloc (.cells #[.int .i32 (m : Int)] 21)).alloc (.cells (taskA zT nilV) 51)).heap[wr.heap.size + 1]? = some (.cells (taskA zT nilV) 51 (0, 0))) := Lib.hid (heapNew (by simp))
              obtain ⟨w6, hw6⟩ : ∃ x, x = ((wr.alloc (.cells #[.int .i32 (m : Int)] 21)).alloc (.cells #[.int .i32 0, .int .i64 0, .int .i64 0, .slice none 0 0, .int .i32 0, .int .i32 0, .int .i32 0, .int .i32 0, .int .i64 0, .int .i64 0, .int .u32 0, .int .i64 0] 51)).setRow (wr.heap.size + 1) (taskA (tkR m k8) (.slice (some ⟨wr.heap.size, 0, none⟩) 1 1)) := ⟨_, rfl⟩
              have hX6 : w6.heap[wr.heap.size + 1]? = some (.cells (taskA (tkR m k8) (.slice (some ⟨wr.heap.size, 0, none⟩) 1 1)) 51 (0, 0)) := by rw [hw6]; exact row_at HZ6.out _
              have hB5 : Below wr.heap.size wr (wr.alloc (.cells #[.int .i32 (m : Int)] 21)) := below_alloc wr _
              have K5 := HK.out.put hB5 (Nat.le_refl _) (heap_alloc_new wr (.cells #[.int .i32 (m : Int)] 21))
              have hs5 : (wr.alloc (.cells #[.int .i32 (m : Int)] 21)).heap.size = wr.heap.size + 1 := by simp
              have hB6 : Below (wr.alloc (.cells #[.int .i32 (m : Int)] 21)).heap.size (wr.alloc (.cells #[.int .i32 (m : Int)] 21)) w6 := by rw [hw6]; exact (below_alloc _ _).trans (row_below (by rw [hs5]; exact Nat.le_refl _))
              obtain ⟨X, hX⟩ : ∃ X : List (Nat × Obj), X = [(wr.heap.size + 1, .cells (taskA (tkR m k8) (.slice (some ⟨wr.heap.size, 0, none⟩) 1 1)) 51), (wr.heap.size, .cells #[.int .i32 (m : Int)] 21)] := ⟨_, rfl⟩
              have K6 : Hid (RqK wo w6 ga b R M M X) := Lib.hid (by rw [hX]; exact K5.put hB6 (by rw [hs5]; exact Nat.le_refl _) hX6)
              have HM1 : Hid ((wr.heap.size, Obj.cells #[.int .i32 (m : Int)] 21 (0, 0)) ∈ X) := Lib.hid (by rw [hX]; exact List.mem_cons_of_mem _ List.mem_cons_self)
              have HM2 : Hid ((wr.heap.size + 1, Obj.cells (taskA (tkR m k8) (.slice (some ⟨wr.heap.size, 0, none⟩) 1 1)) 51 (0, 0)) ∈ X) := Lib.hid (by rw [hX]; exact List.mem_cons_self)
              have HS1 := Lib.hid (fun wq Mr (h : RqK wo wq ga b R M Mr X) => push_lit (m : Int) k8 h HM1.out)
              have HS2 := Lib.hid (fun wq Mp (h : RqK wo wq ga b R Mp M X) => pushR_lit (m : Int) k8 h (by omega) HM1.out)
              obtain ⟨Mx, hMx⟩ : ∃ y, pushM R M (tkR m k8) = y := ⟨_, rfl⟩
              obtain ⟨bb, hbb⟩ : ∃ y, decide (M.length < R) = y := ⟨_, rfl⟩
              have HMX : Hid (MR Mx) := Lib.hid (by rw [← hMx]; exact HM.out.push (by show 1 ≤ 1000; omega))
              rw [hMx, hbb] at HS1 HS2
              have r1 : (bb != bb) = false := bne_self_eq_false _
              have hbx6 := K6.out.box HM2.out
              have s0 : w6.cell? ⟨wr.heap.size + 1, 0, none⟩ = some (.int .i32 (m : Int)) := cell_blk hbx6 0
              have s1 : w6.cell? ⟨wr.heap.size + 1, 1, none⟩ = some (.int .i64 0) := cell_blk hbx6 1
              have s2 : w6.cell? ⟨wr.heap.size + 1, 2, none⟩ = some (.int .i64 0) := cell_blk hbx6 2
              have s3 : w6.cell? ⟨wr.heap.size + 1, 3, none⟩ = some (.slice (some ⟨wr.heap.size, 0, none⟩) 1 1) := cell_blk hbx6 3
              have s4 : w6.cell? ⟨wr.heap.size + 1, 4, none⟩ = some (.int .i32 0) := cell_blk hbx6 4
              have s5 : w6.cell? ⟨wr.heap.size + 1, 5, none⟩ = some (.int .i32 0) := cell_blk hbx6 5
              have s6 : w6.cell? ⟨wr.heap.size + 1, 6, none⟩ = some (.int .i32 0) := cell_blk hbx6 6
              have s7 : w6.cell? ⟨wr.heap.size + 1, 7, none⟩ = some (.int .i32 0) := cell_blk hbx6 7
              have s8 : w6.cell? ⟨wr.heap.size + 1, 8, none⟩ = some (.int .i64 0) := cell_blk hbx6 8
              have s9 : w6.cell? ⟨wr.heap.size + 1, 9, none⟩ = some (.int .i64 0) := cell_blk hbx6 9
              have s10 : w6.cell? ⟨wr.heap.size + 1, 10, none⟩ = some (.int .u32 0) := cell_blk hbx6 10
              have s11 : w6.cell? ⟨wr.heap.size + 1, 11, none⟩ = some (.int .i64 k8) := cell_blk hbx6 11
              have KD6 : Hid (RqK wo w6.drew ga b R M M X) := Lib.hid (K6.out.below ⟨rfl, rfl, rfl, Nat.le_refl _, fun _ _ => rfl⟩)
              have HW6 := Lib.hid hw6
              clear hk8 hB5 K5 hs5 hw6 hX6 hB6 hX hMx hbb hbx6
              have ek8 := HK8.out
              go_upto_region 22 with (first | (refine store_task rfl _ _ rfl rfl (wr.heap.size + 1) (tkR m k8) (.slice (some ⟨wr.heap.size, 0, none⟩) 1 1) rfl rfl _ zT nilV HZ6.out rfl ?_; rw [← HW6.out]) | fail)
              clear ek8 d0
              go_region_law
                (first
                  | (refine step_go rfl ?_; go_simp; (first | (with_reducible refine (HS1.out _ _ KR.out).mono ?_) | (with_reducible refine (HS1.out _ _ KD6.out).mono ?_)); rintro e wA ⟨rfl, hA⟩
                     have hbx := hA.box HM2.out
                     have p0 : wA.cell? ⟨wr.heap.size + 1, 0, none⟩ = some (.int .i32 (m : Int)) := cell_blk hbx 0
                     have p1 : wA.cell? ⟨wr.heap.size + 1, 1, none⟩ = some (.int .i64 0) := cell_blk hbx 1
                     have p2 : wA.cell? ⟨wr.heap.size + 1, 2, none⟩ = some (.int .i64 0) := cell_blk hbx 2
                     have p3 : wA.cell? ⟨wr.heap.size + 1, 3, none⟩ = some (.slice (some ⟨wr.heap.size, 0, none⟩) 1 1) := cell_blk hbx 3
                     have p4 : wA.cell? ⟨wr.heap.size + 1, 4, none⟩ = some (.int .i32 0) := cell_blk hbx 4
                     have p5 : wA.cell? ⟨wr.heap.size + 1, 5, none⟩ = some (.int .i32 0) := cell_blk hbx 5
                     have p6 : wA.cell? ⟨wr.heap.size + 1, 6, none⟩ = some (.int .i32 0) := cell_blk hbx 6
                     have p7 : wA.cell? ⟨wr.heap.size + 1, 7, none⟩ = some (.int .i32 0) := cell_blk hbx 7
                     have p8 : wA.cell? ⟨wr.heap.size + 1, 8, none⟩ = some (.int .i64 0) := cell_blk hbx 8
                     have p9 : wA.cell? ⟨wr.heap.size + 1, 9, none⟩ = some (.int .i64 0) := cell_blk hbx 9
                     have p10 : wA.cell? ⟨wr.heap.size + 1, 10, none⟩ = some (.int .u32 0) := cell_blk hbx 10
                     have p11 : wA.cell? ⟨wr.heap.size + 1, 11, none⟩ = some (.int .i64 k8) := cell_blk hbx 11
                     first | (have KF : Hid (RqK wo wA ga b R Mx Mx X) := Lib.hid hA) | (have KA : Hid (RqK wo wA ga b R Mx M X) := Lib.hid hA)
                     clear hA hbx)
                  | (refine step_go rfl ?_; go_simp; (first | (with_reducible refine (HS2.out _ _ KA.out).mono ?_) | (with_reducible refine (HS2.out _ _ KD6.out).mono ?_)); rintro e wA ⟨rfl, hA⟩
                     have hbx := hA.box HM2.out
                     have p0 : wA.cell? ⟨wr.heap.size + 1, 0, none⟩ = some (.int .i32 (m : Int)) := cell_blk hbx 0
                     have p1 : wA.cell? ⟨wr.heap.size + 1, 1, none⟩ = some (.int .i64 0) := cell_blk hbx 1
                     have p2 : wA.cell? ⟨wr.heap.size + 1, 2, none⟩ = some (.int .i64 0) := cell_blk hbx 2
                     have p3 : wA.cell? ⟨wr.heap.size + 1, 3, none⟩ = some (.slice (some ⟨wr.heap.size, 0, none⟩) 1 1) := cell_blk hbx 3
                     have p4 : wA.cell? ⟨wr.heap.size + 1, 4, none⟩ = some (.int .i32 0) := cell_blk hbx 4
                     have p5 : wA.cell? ⟨wr.heap.size + 1, 5, none⟩ = some (.int .i32 0) := cell_blk hbx 5
                     have p6 : wA.cell? ⟨wr.heap.size + 1, 6, none⟩ = some (.int .i32 0) := cell_blk hbx 6
                     have p7 : wA.cell? ⟨wr.heap.size + 1, 7, none⟩ = some (.int .i32 0) := cell_blk hbx 7
                     have p8 : wA.cell? ⟨wr.heap.size + 1, 8, none⟩ = some (.int .i64 0) := cell_blk hbx 8
                     have p9 : wA.cell? ⟨wr.heap.size + 1, 9, none⟩ = some (.int .i64 0) := cell_blk hbx 9
                     have p10 : wA.cell? ⟨wr.heap.size + 1, 10, none⟩ = some (.int .u32 0) := cell_blk hbx 10
                     have p11 : wA.cell? ⟨wr.heap.size + 1, 11, none⟩ = some (.int .i64 k8) := cell_blk hbx 11
                     first | (have KF : Hid (RqK wo wA ga b R Mx Mx X) := Lib.hid hA) | (have KR : Hid (RqK wo wA ga b R M Mx X) := Lib.hid hA)
                     clear hA hbx))
              all_goals
                go_wp2_with fail
                go_meet
                exact ⟨Mx, HMX.out, KF.out.sub⟩
            · obtain ⟨k8, hk8⟩ : ∃ y, z / 8 = y := ⟨_, rfl⟩
              have HK8 := Lib.hid hk8
              have hk8b : 0 ≤ k8 ∧ k8 ≤ 31 := by omega
              have HZ6 : Hid (((wr.alloc (.cells #[.int .i32 (m : Int)] 21)).alloc (.cells (taskA zT nilV) 51)).heap[wr.heap.size + 1]? = some (.cells (taskA zT nilV) 51 (0, 0))) := Lib.hid (heapNew (by simp))
              obtain ⟨w6, hw6⟩ : ∃ x, x = ((wr.alloc (.cells #[.int .i32 (m : Int)] 21)).alloc (.cells #[.int .i32 0, .int .i64 0, .int .i64 0, .slice none 0 0, .int .i32 0, .int .i32 0, .int .i32 0, .int .i32 0, .int .i64 0, .int .i64 0, .int .u32 0, .int .i64 0] 51)).setRow (wr.heap.size + 1) (taskA (tkR m k8) (.slice (some ⟨wr.heap.size, 0, none⟩) 1 1)) := ⟨_, rfl⟩
              have hX6 : w6.heap[wr.heap.size + 1]? = some (.cells (taskA (tkR m k8) (.slice (some ⟨wr.heap.size, 0, none⟩) 1 1)) 51 (0, 0)) := by rw [hw6]; exact row_at HZ6.out _
              have hB5 : Below wr.heap.size wr (wr.alloc (.cells #[.int .i32 (m : Int)] 21)) := below_alloc wr _
              have K5 := HK.out.put hB5 (Nat.le_refl _) (heap_alloc_new wr (.cells #[.int .i32 (m : Int)] 21))
              have hs5 : (wr.alloc (.cells #[.int .i32 (m : Int)] 21)).heap.size = wr.heap.size + 1 := by simp
              have hB6 : Below (wr.alloc (.cells #[.int .i32 (m : Int)] 21)).heap.size (wr.alloc (.cells #[.int .i32 (m : Int)] 21)) w6 := by rw [hw6]; exact (below_alloc _ _).trans (row_below (by rw [hs5]; exact Nat.le_refl _))
              obtain ⟨X, hX⟩ : ∃ X : List (Nat × Obj), X = [(wr.heap.size + 1, .cells (taskA (tkR m k8) (.slice (some ⟨wr.heap.size, 0, none⟩) 1 1)) 51), (wr.heap.size, .cells #[.int .i32 (m : Int)] 21)] := ⟨_, rfl⟩
              have K6 : Hid (RqK wo w6 ga b R M M X) := Lib.hid (by rw [hX]; exact K5.put hB6 (by rw [hs5]; exact Nat.le_refl _) hX6)
              have HM1 : Hid ((wr.heap.size, Obj.cells #[.int .i32 (m : Int)] 21 (0, 0)) ∈ X) := Lib.hid (by rw [hX]; exact List.mem_cons_of_mem _ List.mem_cons_self)
              have HM2 : Hid ((wr.heap.size + 1, Obj.cells (taskA (tkR m k8) (.slice (some ⟨wr.heap.size, 0, none⟩) 1 1)) 51 (0, 0)) ∈ X) := Lib.hid (by rw [hX]; exact List.mem_cons_self)
              have HS1 := Lib.hid (fun wq Mr (h : RqK wo wq ga b R M Mr X) => push_lit (m : Int) k8 h HM1.out)
              have HS2 := Lib.hid (fun wq Mp (h : RqK wo wq ga b R Mp M X) => pushR_lit (m : Int) k8 h (by omega) HM1.out)
              obtain ⟨Mx, hMx⟩ : ∃ y, pushM R M (tkR m k8) = y := ⟨_, rfl⟩
              obtain ⟨bb, hbb⟩ : ∃ y, decide (M.length < R) = y := ⟨_, rfl⟩
              have HMX : Hid (MR Mx) := Lib.hid (by rw [← hMx]; exact HM.out.push (by show 1 ≤ 1000; omega))
              rw [hMx, hbb] at HS1 HS2
              have r1 : (bb != bb) = false := bne_self_eq_false _
              have hbx6 := K6.out.box HM2.out
              have s0 : w6.cell? ⟨wr.heap.size + 1, 0, none⟩ = some (.int .i32 (m : Int)) := cell_blk hbx6 0
              have s1 : w6.cell? ⟨wr.heap.size + 1, 1, none⟩ = some (.int .i64 0) := cell_blk hbx6 1
              have s2 : w6.cell? ⟨wr.heap.size + 1, 2, none⟩ = some (.int .i64 0) := cell_blk hbx6 2
              have s3 : w6.cell? ⟨wr.heap.size + 1, 3, none⟩ = some (.slice (some ⟨wr.heap.size, 0, none⟩) 1 1) := cell_blk hbx6 3
              have s4 : w6.cell? ⟨wr.heap.size + 1, 4, none⟩ = some (.int .i32 0) := cell_blk hbx6 4
              have s5 : w6.cell? ⟨wr.heap.size + 1, 5, none⟩ = some (.int .i32 0) := cell_blk hbx6 5
              have s6 : w6.cell? ⟨wr.heap.size + 1, 6, none⟩ = some (.int .i32 0) := cell_blk hbx6 6
              have s7 : w6.cell? ⟨wr.heap.size + 1, 7, none⟩ = some (.int .i32 0) := cell_blk hbx6 7
              have s8 : w6.cell? ⟨wr.heap.size + 1, 8, none⟩ = some (.int .i64 0) := cell_blk hbx6 8
              have s9 : w6.cell? ⟨wr.heap.size + 1, 9, none⟩ = some (.int .i64 0) := cell_blk hbx6 9
              have s10 : w6.cell? ⟨wr.heap.size + 1, 10, none⟩ = some (.int .u32 0) := cell_blk hbx6 10
              have s11 : w6.cell? ⟨wr.heap.size + 1, 11, none⟩ = some (.int .i64 k8) := cell_blk hbx6 11
              have KD6 : Hid (RqK wo w6.drew ga b R M M X) := Lib.hid (K6.out.below ⟨rfl, rfl, rfl, Nat.le_refl _, fun _ _ => rfl⟩)
              have HW6 := Lib.hid hw6
              clear hk8 hB5 K5 hs5 hw6 hX6 hB6 hX hMx hbb hbx6
              have ek8 := HK8.out
              go_upto_region 22 with (first | (refine store_task rfl _ _ rfl rfl (wr.heap.size + 1) (tkR m k8) (.slice (some ⟨wr.heap.size, 0, none⟩) 1 1) rfl rfl _ zT nilV HZ6.out rfl ?_; rw [← HW6.out]) | fail)
              clear ek8 d0
              go_region_law
                (first
                  | (refine step_go rfl ?_; go_simp; (first | (with_reducible refine (HS1.out _ _ KR.out).mono ?_) | (with_reducible refine (HS1.out _ _ KD6.out).mono ?_)); rintro e wA ⟨rfl, hA⟩
                     have hbx := hA.box HM2.out
                     have p0 : wA.cell? ⟨wr.heap.size + 1, 0, none⟩ = some (.int .i32 (m : Int)) := cell_blk hbx 0
                     have p1 : wA.cell? ⟨wr.heap.size + 1, 1, none⟩ = some (.int .i64 0) := cell_blk hbx 1
                     have p2 : wA.cell? ⟨wr.heap.size + 1, 2, none⟩ = some (.int .i64 0) := cell_blk hbx 2
                     have p3 : wA.cell? ⟨wr.heap.size + 1, 3, none⟩ = some (.slice (some ⟨wr.heap.size, 0, none⟩) 1 1) := cell_blk hbx 3
                     have p4 : wA.cell? ⟨wr.heap.size + 1, 4, none⟩ = some (.int .i32 0) := cell_blk hbx 4
                     have p5 : wA.cell? ⟨wr.heap.size + 1, 5, none⟩ = some (.int .i32 0) := cell_blk hbx 5
                     have p6 : wA.cell? ⟨wr.heap.size + 1, 6, none⟩ = some (.int .i32 0) := cell_blk hbx 6
                     have p7 : wA.cell? ⟨wr.heap.size + 1, 7, none⟩ = some (.int .i32 0) := cell_blk hbx 7
                     have p8 : wA.cell? ⟨wr.heap.size + 1, 8, none⟩ = some (.int .i64 0) := cell_blk hbx 8
                     have p9 : wA.cell? ⟨wr.heap.size + 1, 9, none⟩ = some (.int .i64 0) := cell_blk hbx 9
                     have p10 : wA.cell? ⟨wr.heap.size + 1, 10, none⟩ = some (.int .u32 0) := cell_blk hbx 10
                     have p11 : wA.cell? ⟨wr.heap.size + 1, 11, none⟩ = some (.int .i64 k8) := cell_blk hbx 11
                     first | (have KF : Hid (RqK wo wA ga b R Mx Mx X) := Lib.hid hA) | (have KA : Hid (RqK wo wA ga b R Mx M X) := Lib.hid hA)
                     clear hA hbx)
                  | (refine step_go rfl ?_; go_simp; (first | (with_reducible refine (HS2.out _ _ KA.out).mono ?_) | (with_reducible refine (HS2.out _ _ KD6.out).mono ?_)); rintro e wA ⟨rfl, hA⟩
                     have hbx := hA.box HM2.out
                     have p0 : wA.cell? ⟨wr.heap.size + 1, 0, none⟩ = some (.int .i32 (m : Int)) := cell_blk hbx 0
                     have p1 : wA.cell? ⟨wr.heap.size + 1, 1, none⟩ = some (.int .i64 0) := cell_blk hbx 1
                     have p2 : wA.cell? ⟨wr.heap.size + 1, 2, none⟩ = some (.int .i64 0) := cell_blk hbx 2
                     have p3 : wA.cell? ⟨wr.heap.size + 1, 3, none⟩ = some (.slice (some ⟨wr.heap.size, 0, none⟩) 1 1) := cell_blk hbx 3
                     have p4 : wA.cell? ⟨wr.heap.size + 1, 4, none⟩ = some (.int .i32 0) := cell_blk hbx 4
                     have p5 : wA.cell? ⟨wr.heap.size + 1, 5, none⟩ = some (.int .i32 0) := cell_blk hbx 5
                     have p6 : wA.cell? ⟨wr.heap.size + 1, 6, none⟩ = some (.int .i32 0) := cell_blk hbx 6
                     have p7 : wA.cell? ⟨wr.heap.size + 1, 7, none⟩ = some (.int .i32 0) := cell_blk hbx 7
                     have p8 : wA.cell? ⟨wr.heap.size + 1, 8, none⟩ = some (.int .i64 0) := cell_blk hbx 8
                     have p9 : wA.cell? ⟨wr.heap.size + 1, 9, none⟩ = some (.int .i64 0) := cell_blk hbx 9
                     have p10 : wA.cell? ⟨wr.heap.size + 1, 10, none⟩ = some (.int .u32 0) := cell_blk hbx 10
                     have p11 : wA.cell? ⟨wr.heap.size + 1, 11, none⟩ = some (.int .i64 k8) := cell_blk hbx 11
                     first | (have KF : Hid (RqK wo wA ga b R Mx Mx X) := Lib.hid hA) | (have KR : Hid (RqK wo wA ga b R M Mx X) := Lib.hid hA)
                     clear hA hbx))
              all_goals
                go_wp2_with fail
                go_meet
                exact ⟨Mx, HMX.out, KF.out.sub⟩
            · obtain ⟨k8, hk8⟩ : ∃ y, z / 8 = y := ⟨_, rfl⟩
              have HK8 := Lib.hid hk8
              have hk8b : 0 ≤ k8 ∧ k8 ≤ 31 := by omega
              have HZ6 : Hid (((wr.alloc (.cells #[.int .i32 (m : Int)] 21)).alloc (.cells (taskA zT nilV) 51)).heap[wr.heap.size + 1]? = some (.cells (taskA zT nilV) 51 (0, 0))) := Lib.hid (heapNew (by simp))
              obtain ⟨w6, hw6⟩ : ∃ x, x = ((wr.alloc (.cells #[.int .i32 (m : Int)] 21)).alloc (.cells #[.int .i32 0, .int .i64 0, .int .i64 0, .slice none 0 0, .int .i32 0, .int .i32 0, .int .i32 0, .int .i32 0, .int .i64 0, .int .i64 0, .int .u32 0, .int .i64 0] 51)).setRow (wr.heap.size + 1) (taskA (tkR m k8) (.slice (some ⟨wr.heap.size, 0, none⟩) 1 1)) := ⟨_, rfl⟩
              have hX6 : w6.heap[wr.heap.size + 1]? = some (.cells (taskA (tkR m k8) (.slice (some ⟨wr.heap.size, 0, none⟩) 1 1)) 51 (0, 0)) := by rw [hw6]; exact row_at HZ6.out _
              have hB5 : Below wr.heap.size wr (wr.alloc (.cells #[.int .i32 (m : Int)] 21)) := below_alloc wr _
              have K5 := HK.out.put hB5 (Nat.le_refl _) (heap_alloc_new wr (.cells #[.int .i32 (m : Int)] 21))
              have hs5 : (wr.alloc (.cells #[.int .i32 (m : Int)] 21)).heap.size = wr.heap.size + 1 := by simp
              have hB6 : Below (wr.alloc (.cells #[.int .i32 (m : Int)] 21)).heap.size (wr.alloc (.cells #[.int .i32 (m : Int)] 21)) w6 := by rw [hw6]; exact (below_alloc _ _).trans (row_below (by rw [hs5]; exact Nat.le_refl _))
              obtain ⟨X, hX⟩ : ∃ X : List (Nat × Obj), X = [(wr.heap.size + 1, .cells (taskA (tkR m k8) (.slice (some ⟨wr.heap.size, 0, none⟩) 1 1)) 51), (wr.heap.size, .cells #[.int .i32 (m : Int)] 21)] := ⟨_, rfl⟩
              have K6 : Hid (RqK wo w6 ga b R M M X) := Lib.hid (by rw [hX]; exact K5.put hB6 (by rw [hs5]; exact Nat.le_refl _) hX6)
              have HM1 : Hid ((wr.heap.size, Obj.cells #[.int .i32 (m : Int)] 21 (0, 0)) ∈ X) := Lib.hid (by rw [hX]; exact List.mem_cons_of_mem _ List.mem_cons_self)
              have HM2 : Hid ((wr.heap.size + 1, Obj.cells (taskA (tkR m k8) (.slice (some ⟨wr.heap.size, 0, none⟩) 1 1)) 51 (0, 0)) ∈ X) := Lib.hid (by rw [hX]; exact List.mem_cons_self)
              have HS1 := Lib.hid (fun wq Mr (h : RqK wo wq ga b R M Mr X) => push_lit (m : Int) k8 h HM1.out)
              have HS2 := Lib.hid (fun wq Mp (h : RqK wo wq ga b R Mp M X) => pushR_lit (m : Int) k8 h (by omega) HM1.out)
              obtain ⟨Mx, hMx⟩ : ∃ y, pushM R M (tkR m k8) = y := ⟨_, rfl⟩
              obtain ⟨bb, hbb⟩ : ∃ y, decide (M.length < R) = y := ⟨_, rfl⟩
              have HMX : Hid (MR Mx) := Lib.hid (by rw [← hMx]; exact HM.out.push (by show 1 ≤ 1000; omega))
              rw [hMx, hbb] at HS1 HS2
              have r1 : (bb != bb) = false := bne_self_eq_false _
              have hbx6 := K6.out.box HM2.out
              have s0 : w6.cell? ⟨wr.heap.size + 1, 0, none⟩ = some (.int .i32 (m : Int)) := cell_blk hbx6 0
              have s1 : w6.cell? ⟨wr.heap.size + 1, 1, none⟩ = some (.int .i64 0) := cell_blk hbx6 1
              have s2 : w6.cell? ⟨wr.heap.size + 1, 2, none⟩ = some (.int .i64 0) := cell_blk hbx6 2
              have s3 : w6.cell? ⟨wr.heap.size + 1, 3, none⟩ = some (.slice (some ⟨wr.heap.size, 0, none⟩) 1 1) := cell_blk hbx6 3
              have s4 : w6.cell? ⟨wr.heap.size + 1, 4, none⟩ = some (.int .i32 0) := cell_blk hbx6 4
              have s5 : w6.cell? ⟨wr.heap.size + 1, 5, none⟩ = some (.int .i32 0) := cell_blk hbx6 5
              have s6 : w6.cell? ⟨wr.heap.size + 1, 6, none⟩ = some (.int .i32 0) := cell_blk hbx6 6
              have s7 : w6.cell? ⟨wr.heap.size + 1, 7, none⟩ = some (.int .i32 0) := cell_blk hbx6 7
              have s8 : w6.cell? ⟨wr.heap.size + 1, 8, none⟩ = some (.int .i64 0) := cell_blk hbx6 8
              have s9 : w6.cell? ⟨wr.heap.size + 1, 9, none⟩ = some (.int .i64 0) := cell_blk hbx6 9
              have s10 : w6.cell? ⟨wr.heap.size + 1, 10, none⟩ = some (.int .u32 0) := cell_blk hbx6 10
              have s11 : w6.cell? ⟨wr.heap.size + 1, 11, none⟩ = some (.int .i64 k8) := cell_blk hbx6 11
              have KD6 : Hid (RqK wo w6.drew ga b R M M X) := Lib.hid (K6.out.below ⟨rfl, rfl, rfl, Nat.le_refl _, fun _ _ => rfl⟩)
              have HW6 := Lib.hid hw6
              clear hk8 hB5 K5 hs5 hw6 hX6 hB6 hX hMx hbb hbx6
              have ek8 := HK8.out
              go_upto_region 22 with (first | (refine store_task rfl _ _ rfl rfl (wr.heap.size + 1) (tkR m k8) (.slice (some ⟨wr.heap.size, 0, none⟩) 1 1) rfl rfl _ zT nilV HZ6.out rfl ?_; rw [← HW6.out]) | fail)
              clear ek8 d0
              go_region_law
                (first
                  | (refine step_go rfl ?_; go_simp; (first | (with_reducible refine (HS1.out _ _ KR.out).mono ?_) | (with_reducible refine (HS1.out _ _ KD6.out).mono ?_)); rintro e wA ⟨rfl, hA⟩
                     have hbx := hA.box HM2.out
                     have p0 : wA.cell? ⟨wr.heap.size + 1, 0, none⟩ = some (.int .i32 (m : Int)) := cell_blk hbx 0
                     have p1 : wA.cell? ⟨wr.heap.size + 1, 1, none⟩ = some (.int .i64 0) := cell_blk hbx 1
                     have p2 : wA.cell? ⟨wr.heap.size + 1, 2, none⟩ = some (.int .i64 0) := cell_blk hbx 2
                     have p3 : wA.cell? ⟨wr.heap.size + 1, 3, none⟩ = some (.slice (some ⟨wr.heap.size, 0, none⟩) 1 1) := cell_blk hbx 3
                     have p4 : wA.cell? ⟨wr.heap.size + 1, 4, none⟩ = some (.int .i32 0) := cell_blk hbx 4
                     have p5 : wA.cell? ⟨wr.heap.size + 1, 5, none⟩ = some (.int .i32 0) := cell_blk hbx 5
                     have p6 : wA.cell? ⟨wr.heap.size + 1, 6, none⟩ = some (.int .i32 0) := cell_blk hbx 6
                     have p7 : wA.cell? ⟨wr.heap.size + 1, 7, none⟩ = some (.int .i32 0) := cell_blk hbx 7
                     have p8 : wA.cell? ⟨wr.heap.size + 1, 8, none⟩ = some (.int .i64 0) := cell_blk hbx 8
                     have p9 : wA.cell? ⟨wr.heap.size + 1, 9, none⟩ = some (.int .i64 0) := cell_blk hbx 9
                     have p10 : wA.cell? ⟨wr.heap.size + 1, 10, none⟩ = some (.int .u32 0) := cell_blk hbx 10
                     have p11 : wA.cell? ⟨wr.heap.size + 1, 11, none⟩ = some (.int .i64 k8) := cell_blk hbx 11
                     first | (have KF : Hid (RqK wo wA ga b R Mx Mx X) := Lib.hid hA) | (have KA : Hid (RqK wo wA ga b R Mx M X) := Lib.hid hA)
                     clear hA hbx)
                  | (refine step_go rfl ?_; go_simp; (first | (with_reducible refine (HS2.out _ _ KA.out).mono ?_) | (with_reducible refine (HS2.out _ _ KD6.out).mono ?_)); rintro e wA ⟨rfl, hA⟩
                     have hbx := hA.box HM2.out
                     have p0 : wA.cell? ⟨wr.heap.size + 1, 0, none⟩ = some (.int .i32 (m : Int)) := cell_blk hbx 0
                     have p1 : wA.cell? ⟨wr.heap.size + 1, 1, none⟩ = some (.int .i64 0) := cell_blk hbx 1
                     have p2 : wA.cell? ⟨wr.heap.size + 1, 2, none⟩ = some (.int .i64 0) := cell_blk hbx 2
                     have p3 : wA.cell? ⟨wr.heap.size + 1, 3, none⟩ = some (.slice (some ⟨wr.heap.size, 0, none⟩) 1 1) := cell_blk hbx 3
                     have p4 : wA.cell? ⟨wr.heap.size + 1, 4, none⟩ = some (.int .i32 0) := cell_blk hbx 4
                     have p5 : wA.cell? ⟨wr.heap.size + 1, 5, none⟩ = some (.int .i32 0) := cell_blk hbx 5
                     have p6 : wA.cell? ⟨wr.heap.size + 1, 6, none⟩ = some (.int .i32 0) := cell_blk hbx 6
                     have p7 : wA.cell? ⟨wr.heap.size + 1, 7, none⟩ = some (.int .i32 0) := cell_blk hbx 7
                     have p8 : wA.cell? ⟨wr.heap.size + 1, 8, none⟩ = some (.int .i64 0) := cell_blk hbx 8
                     have p9 : wA.cell? ⟨wr.heap.size + 1, 9, none⟩ = some (.int .i64 0) := cell_blk hbx 9
                     have p10 : wA.cell? ⟨wr.heap.size + 1, 10, none⟩ = some (.int .u32 0) := cell_blk hbx 10
                     have p11 : wA.cell? ⟨wr.heap.size + 1, 11, none⟩ = some (.int .i64 k8) := cell_blk hbx 11
                     first | (have KF : Hid (RqK wo wA ga b R Mx Mx X) := Lib.hid hA) | (have KR : Hid (RqK wo wA ga b R M Mx X) := Lib.hid hA)
                     clear hA hbx))
              all_goals
                go_wp2_with fail
                go_meet
                exact ⟨Mx, HMX.out, KF.out.sub⟩
            · obtain ⟨k8, hk8⟩ : ∃ y, z / 8 = y := ⟨_, rfl⟩
              have HK8 := Lib.hid hk8
              have hk8b : 0 ≤ k8 ∧ k8 ≤ 31 := by omega
              have HZ6 : Hid (((wr.alloc (.cells #[.int .i32 (m : Int)] 21)).alloc (.cells (taskA zT nilV) 51)).heap[wr.heap.size + 1]? = some (.cells (taskA zT nilV) 51 (0, 0))) := Lib.hid (heapNew (by simp))
              obtain ⟨w6, hw6⟩ : ∃ x, x = ((wr.alloc (.cells #[.int .i32 (m : Int)] 21)).alloc (.cells #[.int .i32 0, .int .i64 0, .int .i64 0, .slice none 0 0, .int .i32 0, .int .i32 0, .int .i32 0, .int .i32 0, .int .i64 0, .int .i64 0, .int .u32 0, .int .i64 0] 51)).setRow (wr.heap.size + 1) (taskA (tkR m k8) (.slice (some ⟨wr.heap.size, 0, none⟩) 1 1)) := ⟨_, rfl⟩
              have hX6 : w6.heap[wr.heap.size + 1]? = some (.cells (taskA (tkR m k8) (.slice (some ⟨wr.heap.size, 0, none⟩) 1 1)) 51 (0, 0)) := by rw [hw6]; exact row_at HZ6.out _
              have hB5 : Below wr.heap.size wr (wr.alloc (.cells #[.int .i32 (m : Int)] 21)) := below_alloc wr _
              have K5 := HK.out.put hB5 (Nat.le_refl _) (heap_alloc_new wr (.cells #[.int .i32 (m : Int)] 21))
              have hs5 : (wr.alloc (.cells #[.int .i32 (m : Int)] 21)).heap.size = wr.heap.size + 1 := by simp
              have hB6 : Below (wr.alloc (.cells #[.int .i32 (m : Int)] 21)).heap.size (wr.alloc (.cells #[.int .i32 (m : Int)] 21)) w6 := by rw [hw6]; exact (below_alloc _ _).trans (row_below (by rw [hs5]; exact Nat.le_refl _))
              obtain ⟨X, hX⟩ : ∃ X : List (Nat × Obj), X = [(wr.heap.size + 1, .cells (taskA (tkR m k8) (.slice (some ⟨wr.heap.size, 0, none⟩) 1 1)) 51), (wr.heap.size, .cells #[.int .i32 (m : Int)] 21)] := ⟨_, rfl⟩
              have K6 : Hid (RqK wo w6 ga b R M M X) := Lib.hid (by rw [hX]; exact K5.put hB6 (by rw [hs5]; exact Nat.le_refl _) hX6)
              have HM1 : Hid ((wr.heap.size, Obj.cells #[.int .i32 (m : Int)] 21 (0, 0)) ∈ X) := Lib.hid (by rw [hX]; exact List.mem_cons_of_mem _ List.mem_cons_self)
              have HM2 : Hid ((wr.heap.size + 1, Obj.cells (taskA (tkR m k8) (.slice (some ⟨wr.heap.size, 0, none⟩) 1 1)) 51 (0, 0)) ∈ X) := Lib.hid (by rw [hX]; exact List.mem_cons_self)
              have HS1 := Lib.hid (fun wq Mr (h : RqK wo wq ga b R M Mr X) => push_lit (m : Int) k8 h HM1.out)
              have HS2 := Lib.hid (fun wq Mp (h : RqK wo wq ga b R Mp M X) => pushR_lit (m : Int) k8 h (by omega) HM1.out)
              obtain ⟨Mx, hMx⟩ : ∃ y, pushM R M (tkR m k8) = y := ⟨_, rfl⟩
              obtain ⟨bb, hbb⟩ : ∃ y, decide (M.length < R) = y := ⟨_, rfl⟩
              have HMX : Hid (MR Mx) := Lib.hid (by rw [← hMx]; exact HM.out.push (by show 1 ≤ 1000; omega))
              rw [hMx, hbb] at HS1 HS2
              have r1 : (bb != bb) = false := bne_self_eq_false _
              have hbx6 := K6.out.box HM2.out
              have s0 : w6.cell? ⟨wr.heap.size + 1, 0, none⟩ = some (.int .i32 (m : Int)) := cell_blk hbx6 0
              have s1 : w6.cell? ⟨wr.heap.size + 1, 1, none⟩ = some (.int .i64 0) := cell_blk hbx6 1
              have s2 : w6.cell? ⟨wr.heap.size + 1, 2, none⟩ = some (.int .i64 0) := cell_blk hbx6 2
              have s3 : w6.cell? ⟨wr.heap.size + 1, 3, none⟩ = some (.slice (some ⟨wr.heap.size, 0, none⟩) 1 1) := cell_blk hbx6 3
              have s4 : w6.cell? ⟨wr.heap.size + 1, 4, none⟩ = some (.int .i32 0) := cell_blk hbx6 4
              have s5 : w6.cell? ⟨wr.heap.size + 1, 5, none⟩ = some (.int .i32 0) := cell_blk hbx6 5
              have s6 : w6.cell? ⟨wr.heap.size + 1, 6, none⟩ = some (.int .i32 0) := cell_blk hbx6 6
              have s7 : w6.cell? ⟨wr.heap.size + 1, 7, none⟩ = some (.int .i32 0) := cell_blk hbx6 7
              have s8 : w6.cell? ⟨wr.heap.size + 1, 8, none⟩ = some (.int .i64 0) := cell_blk hbx6 8
              have s9 : w6.cell? ⟨wr.heap.size + 1, 9, none⟩ = some (.int .i64 0) := cell_blk hbx6 9
              have s10 : w6.cell? ⟨wr.heap.size + 1, 10, none⟩ = some (.int .u32 0) := cell_blk hbx6 10
              have s11 : w6.cell? ⟨wr.heap.size + 1, 11, none⟩ = some (.int .i64 k8) := cell_blk hbx6 11
              have KD6 : Hid (RqK wo w6.drew ga b R M M X) := Lib.hid (K6.out.below ⟨rfl, rfl, rfl, Nat.le_refl _, fun _ _ => rfl⟩)
              have HW6 := Lib.hid hw6
              clear hk8 hB5 K5 hs5 hw6 hX6 hB6 hX hMx hbb hbx6
              have ek8 := HK8.out
              go_upto_region 22 with (first | (refine store_task rfl _ _ rfl rfl (wr.heap.size + 1) (tkR m k8) (.slice (some ⟨wr.heap.size, 0, none⟩) 1 1) rfl rfl _ zT nilV HZ6.out rfl ?_; rw [← HW6.out]) | fail)
              clear ek8 d0
              go_region_law
                (first
                  | (refine step_go rfl ?_; go_simp; (first | (with_reducible refine (HS1.out _ _ KR.out).mono ?_) | (with_reducible refine (HS1.out _ _ KD6.out).mono ?_)); rintro e wA ⟨rfl, hA⟩
                     have hbx := hA.box HM2.out
                     have p0 : wA.cell? ⟨wr.heap.size + 1, 0, none⟩ = some (.int .i32 (m : Int)) := cell_blk hbx 0
                     have p1 : wA.cell? ⟨wr.heap.size + 1, 1, none⟩ = some (.int .i64 0) := cell_blk hbx 1
                     have p2 : wA.cell? ⟨wr.heap.size + 1, 2, none⟩ = some (.int .i64 0) := cell_blk hbx 2
                     have p3 : wA.cell? ⟨wr.heap.size + 1, 3, none⟩ = some (.slice (some ⟨wr.heap.size, 0, none⟩) 1 1) := cell_blk hbx 3
                     have p4 : wA.cell? ⟨wr.heap.size + 1, 4, none⟩ = some (.int .i32 0) := cell_blk hbx 4
                     have p5 : wA.cell? ⟨wr.heap.size + 1, 5, none⟩ = some (.int .i32 0) := cell_blk hbx 5
                     have p6 : wA.cell? ⟨wr.heap.size + 1, 6, none⟩ = some (.int .i32 0) := cell_blk hbx 6
                     have p7 : wA.cell? ⟨wr.heap.size + 1, 7, none⟩ = some (.int .i32 0) := cell_blk hbx 7
                     have p8 : wA.cell? ⟨wr.heap.size + 1, 8, none⟩ = some (.int .i64 0) := cell_blk hbx 8
                     have p9 : wA.cell? ⟨wr.heap.size + 1, 9, none⟩ = some (.int .i64 0) := cell_blk hbx 9
                     have p10 : wA.cell? ⟨wr.heap.size + 1, 10, none⟩ = some (.int .u32 0) := cell_blk hbx 10
                     have p11 : wA.cell? ⟨wr.heap.size + 1, 11, none⟩ = some (.int .i64 k8) := cell_blk hbx 11
                     first | (have KF : Hid (RqK wo wA ga b R Mx Mx X) := Lib.hid hA) | (have KA : Hid (RqK wo wA ga b R Mx M X) := Lib.hid hA)
                     clear hA hbx)
                  | (refine step_go rfl ?_; go_simp; (first | (with_reducible refine (HS2.out _ _ KA.out).mono ?_) | (with_reducible refine (HS2.out _ _ KD6.out).mono ?_)); rintro e wA ⟨rfl, hA⟩
                     have hbx := hA.box HM2.out
                     have p0 : wA.cell? ⟨wr.heap.size + 1, 0, none⟩ = some (.int .i32 (m : Int)) := cell_blk hbx 0
                     have p1 : wA.cell? ⟨wr.heap.size + 1, 1, none⟩ = some (.int .i64 0) := cell_blk hbx 1
                     have p2 : wA.cell? ⟨wr.heap.size + 1, 2, none⟩ = some (.int .i64 0) := cell_blk hbx 2
                     have p3 : wA.cell? ⟨wr.heap.size + 1, 3, none⟩ = some (.slice (some ⟨wr.heap.size, 0, none⟩) 1 1) := cell_blk hbx 3
                     have p4 : wA.cell? ⟨wr.heap.size + 1, 4, none⟩ = some (.int .i32 0) := cell_blk hbx 4
                     have p5 : wA.cell? ⟨wr.heap.size + 1, 5, none⟩ = some (.int .i32 0) := cell_blk hbx 5
                     have p6 : wA.cell? ⟨wr.heap.size + 1, 6, none⟩ = some (.int .i32 0) := cell_blk hbx 6
                     have p7 : wA.cell? ⟨wr.heap.size + 1, 7, none⟩ = some (.int .i32 0) := cell_blk hbx 7
                     have p8 : wA.cell? ⟨wr.heap.size + 1, 8, none⟩ = some (.int .i64 0) := cell_blk hbx 8
                     have p9 : wA.cell? ⟨wr.heap.size + 1, 9, none⟩ = some (.int .i64 0) := cell_blk hbx 9
                     have p10 : wA.cell? ⟨wr.heap.size + 1, 10, none⟩ = some (.int .u32 0) := cell_blk hbx 10
                     have p11 : wA.cell? ⟨wr.heap.size + 1, 11, none⟩ = some (.int .i64 k8) := cell_blk hbx 11
                     first | (have KF : Hid (RqK wo wA ga b R Mx Mx X) := Lib.hid hA) | (have KR : Hid (RqK wo wA ga b R M Mx X) := Lib.hid hA)
                     clear hA hbx))
              all_goals
                go_wp2_with fail
                go_meet
                exact ⟨Mx, HMX.out, KF.out.sub⟩
            · have HP1 := Lib.hid (rqPopT HK.out)
              have HP2 := Lib.hid (fun wq X' (h : RqK wo wq ga b R M.dropLast M X') => rqPopTR h (by omega))
              obtain ⟨t, ht⟩ : ∃ y, lastT M = y := ⟨_, rfl⟩
              obtain ⟨yb, hyb⟩ : ∃ y, (!M.isEmpty) = y := ⟨_, rfl⟩
              obtain ⟨Mx, hMx⟩ : ∃ y, M.dropLast = y := ⟨_, rfl⟩
              have HTL : Hid (t.st.length ≤ 1000) := Lib.hid (by rw [← ht]; exact HM.out.last)
              have HMX : Hid (MR Mx) := Lib.hid (by rw [← hMx]; exact HM.out.sub fun x hx => List.dropLast_subset M hx)
              rw [ht, hyb, hMx] at HP1 HP2
              have r1 : (yb != yb) = false := bne_self_eq_false _
              clear ht hyb hMx
              go_wp2_with fail
              refine HP1.out.mono ?_
              rintro e w7 ⟨A7, n7, c7, rfl, h7, hi7⟩
              obtain ⟨b7, hb7⟩ : ∃ k, w7.heap.size = k := ⟨_, rfl⟩
              have HZ8 : Hid ((w7.alloc (.cells (taskA zT nilV) 51)).heap[b7]? = some (.cells (taskA zT nilV) 51 (0, 0))) := Lib.hid (by rw [← hb7]; exact heap_alloc_new w7 _)
              obtain ⟨w8, hw8⟩ : ∃ x, x = (w7.alloc (.cells #[.int .i32 0, .int .i64 0, .int .i64 0, .slice none 0 0, .int .i32 0, .int .i32 0, .int .i32 0, .int .i32 0, .int .i64 0, .int .i64 0, .int .u32 0, .int .i64 0] 51)).setRow b7 (taskA t (.slice A7 n7 c7)) := ⟨_, rfl⟩
              have hX8 : w8.heap[b7]? = some (.cells (taskA t (.slice A7 n7 c7)) 51 (0, 0)) := by rw [hw8]; exact row_at HZ8.out _
              have hB8 : Below w7.heap.size w7 w8 := by rw [hw8]; exact (below_alloc w7 _).trans (row_below (by omega))
              have h8 := h7.put hB8 (by omega) hX8
              have HP8 := Lib.hid (HP2.out w8 _ h8)
              have HI8 : Hid (∀ w2, Frm (fun i => i = b) w8 w2 → I32V w2 w2.heap.size (.slice A7 n7 c7) t.st) := Lib.hid fun w2 hf => hi7 w2 ((Frm.of_below hB8).then hf)
              have HW8 := Lib.hid hw8
              have HB7 := Lib.hid hb7
              clear h7 hi7 hb7 hw8 hX8 hB8 h8
              go_upto_region 27 with (first | (refine store_task rfl _ _ rfl rfl w7.heap.size t (.slice A7 n7 c7) rfl rfl _ zT nilV (by rw [HB7.out]; exact HZ8.out) rfl ?_) | fail)
              rw [HB7.out, ← HW8.out]
              go_wp2_with fail
              refine HP8.out.mono ?_
              rintro e w9 ⟨A9, n9, c9, rfl, hi9, h9, hf9⟩
              obtain ⟨b9, hb9⟩ : ∃ k, w9.heap.size = k := ⟨_, rfl⟩
              have HZ10 : Hid ((w9.alloc (.cells (taskA zT nilV) 51)).heap[b9]? = some (.cells (taskA zT nilV) 51 (0, 0))) := Lib.hid (by rw [← hb9]; exact heap_alloc_new w9 _)
              obtain ⟨w10, hw10⟩ : ∃ x, x = (w9.alloc (.cells #[.int .i32 0, .int .i64 0, .int .i64 0, .slice none 0 0, .int .i32 0, .int .i32 0, .int .i32 0, .int .i32 0, .int .i64 0, .int .i64 0, .int .u32 0, .int .i64 0] 51)).setRow b9 (taskA t (.slice A9 n9 c9)) := ⟨_, rfl⟩
              have hX10 : w10.heap[b9]? = some (.cells (taskA t (.slice A9 n9 c9)) 51 (0, 0)) := by rw [hw10]; exact row_at HZ10.out _
              have hB10 : Below w9.heap.size w9 w10 := by rw [hw10]; exact (below_alloc w9 _).trans (row_below (by omega))
              have HY8 : Hid (w10.heap[b7]? = some (.cells (taskA t (.slice A7 n7 c7)) 51 (0, 0))) := Lib.hid ((h9.below hB10).box List.mem_cons_self)
              have HY10 := Lib.hid hX10
              have HK10 := Lib.hid (h9.below hB10).sub
              have HSM := Lib.hid (refSame_any t t (.slice A7 n7 c7) (.slice A9 n9 c9) w10 (HI8.out w10 (hf9.then (Frm.of_below hB10))) (hi9.later hB10) HTL.out)
              rw [sameB_self] at HSM
              simp only [taskV, taskA] at HSM
              have HW10 := Lib.hid hw10
              have HB9 := Lib.hid hb9
              clear hi9 h9 hf9 hb9 hw10 hX10 hB10
              go_upto_region 28 with (first | (refine store_task rfl _ _ rfl rfl w9.heap.size t (.slice A9 n9 c9) rfl rfl _ zT nilV (by rw [HB9.out]; exact HZ10.out) rfl ?_) | fail)
              rw [HB9.out, ← HW10.out]
              have p0 : w10.cell? ⟨b7, 0, none⟩ = some (.int .i32 t.id) := cell_blk HY8.out 0
              have p1 : w10.cell? ⟨b7, 1, none⟩ = some (.int .i64 t.fn) := cell_blk HY8.out 1
              have p2 : w10.cell? ⟨b7, 2, none⟩ = some (.int .i64 t.pc) := cell_blk HY8.out 2
              have p3 : w10.cell? ⟨b7, 3, none⟩ = some (.slice A7 n7 c7) := cell_blk HY8.out 3
              have p4 : w10.cell? ⟨b7, 4, none⟩ = some (.int .i32 t.v0) := cell_blk HY8.out 4
              have p5 : w10.cell? ⟨b7, 5, none⟩ = some (.int .i32 t.v1) := cell_blk HY8.out 5
              have p6 : w10.cell? ⟨b7, 6, none⟩ = some (.int .i32 t.v2) := cell_blk HY8.out 6
              have p7 : w10.cell? ⟨b7, 7, none⟩ = some (.int .i32 t.v3) := cell_blk HY8.out 7
              have p8 : w10.cell? ⟨b7, 8, none⟩ = some (.int .i64 t.lb) := cell_blk HY8.out 8
              have p9 : w10.cell? ⟨b7, 9, none⟩ = some (.int .i64 t.cl) := cell_blk HY8.out 9
              have p10 : w10.cell? ⟨b7, 10, none⟩ = some (.int .u32 t.pv) := cell_blk HY8.out 10
              have p11 : w10.cell? ⟨b7, 11, none⟩ = some (.int .i64 t.wk) := cell_blk HY8.out 11
              have s0 : w10.cell? ⟨b9, 0, none⟩ = some (.int .i32 t.id) := cell_blk HY10.out 0
              have s1 : w10.cell? ⟨b9, 1, none⟩ = some (.int .i64 t.fn) := cell_blk HY10.out 1
              have s2 : w10.cell? ⟨b9, 2, none⟩ = some (.int .i64 t.pc) := cell_blk HY10.out 2
              have s3 : w10.cell? ⟨b9, 3, none⟩ = some (.slice A9 n9 c9) := cell_blk HY10.out 3
              have s4 : w10.cell? ⟨b9, 4, none⟩ = some (.int .i32 t.v0) := cell_blk HY10.out 4
              have s5 : w10.cell? ⟨b9, 5, none⟩ = some (.int .i32 t.v1) := cell_blk HY10.out 5
              have s6 : w10.cell? ⟨b9, 6, none⟩ = some (.int .i32 t.v2) := cell_blk HY10.out 6
              have s7 : w10.cell? ⟨b9, 7, none⟩ = some (.int .i32 t.v3) := cell_blk HY10.out 7
              have s8 : w10.cell? ⟨b9, 8, none⟩ = some (.int .i64 t.lb) := cell_blk HY10.out 8
              have s9 : w10.cell? ⟨b9, 9, none⟩ = some (.int .i64 t.cl) := cell_blk HY10.out 9
              have s10 : w10.cell? ⟨b9, 10, none⟩ = some (.int .u32 t.pv) := cell_blk HY10.out 10
              have s11 : w10.cell? ⟨b9, 11, none⟩ = some (.int .i64 t.wk) := cell_blk HY10.out 11
              go_wp2_with fail
              refine HSM.out.mono ?_
              rintro e w11 ⟨rfl, hb11⟩
              have HB11 := Lib.hid hb11
              clear hb11
              go_wp2_with fail
              go_meet
              exact ⟨Mx, HMX.out, HK10.out.below HB11.out⟩
            · have HP1 := Lib.hid (rqPopT HK.out)
              have HP2 := Lib.hid (fun wq X' (h : RqK wo wq ga b R M.dropLast M X') => rqPopTR h (by omega))
              obtain ⟨t, ht⟩ : ∃ y, lastT M = y := ⟨_, rfl⟩
              obtain ⟨yb, hyb⟩ : ∃ y, (!M.isEmpty) = y := ⟨_, rfl⟩
              obtain ⟨Mx, hMx⟩ : ∃ y, M.dropLast = y := ⟨_, rfl⟩
              have HTL : Hid (t.st.length ≤ 1000) := Lib.hid (by rw [← ht]; exact HM.out.last)
              have HMX : Hid (MR Mx) := Lib.hid (by rw [← hMx]; exact HM.out.sub fun x hx => List.dropLast_subset M hx)
              rw [ht, hyb, hMx] at HP1 HP2
              have r1 : (yb != yb) = false := bne_self_eq_false _
              clear ht hyb hMx
              go_wp2_with fail
              refine HP1.out.mono ?_
              rintro e w7 ⟨A7, n7, c7, rfl, h7, hi7⟩
              obtain ⟨b7, hb7⟩ : ∃ k, w7.heap.size = k := ⟨_, rfl⟩
              have HZ8 : Hid ((w7.alloc (.cells (taskA zT nilV) 51)).heap[b7]? = some (.cells (taskA zT nilV) 51 (0, 0))) := Lib.hid (by rw [← hb7]; exact heap_alloc_new w7 _)
              obtain ⟨w8, hw8⟩ : ∃ x, x = (w7.alloc (.cells #[.int .i32 0, .int .i64 0, .int .i64 0, .slice none 0 0, .int .i32 0, .int .i32 0, .int .i32 0, .int .i32 0, .int .i64 0, .int .i64 0, .int .u32 0, .int .i64 0] 51)).setRow b7 (taskA t (.slice A7 n7 c7)) := ⟨_, rfl⟩
              have hX8 : w8.heap[b7]? = some (.cells (taskA t (.slice A7 n7 c7)) 51 (0, 0)) := by rw [hw8]; exact row_at HZ8.out _
              have hB8 : Below w7.heap.size w7 w8 := by rw [hw8]; exact (below_alloc w7 _).trans (row_below (by omega))
              have h8 := h7.put hB8 (by omega) hX8
              have HP8 := Lib.hid (HP2.out w8 _ h8)
              have HI8 : Hid (∀ w2, Frm (fun i => i = b) w8 w2 → I32V w2 w2.heap.size (.slice A7 n7 c7) t.st) := Lib.hid fun w2 hf => hi7 w2 ((Frm.of_below hB8).then hf)
              have HW8 := Lib.hid hw8
              have HB7 := Lib.hid hb7
              clear h7 hi7 hb7 hw8 hX8 hB8 h8
              go_upto_region 27 with (first | (refine store_task rfl _ _ rfl rfl w7.heap.size t (.slice A7 n7 c7) rfl rfl _ zT nilV (by rw [HB7.out]; exact HZ8.out) rfl ?_) | fail)
              rw [HB7.out, ← HW8.out]
              go_wp2_with fail
              refine HP8.out.mono ?_
              rintro e w9 ⟨A9, n9, c9, rfl, hi9, h9, hf9⟩
              obtain ⟨b9, hb9⟩ : ∃ k, w9.heap.size = k := ⟨_, rfl⟩
              have HZ10 : Hid ((w9.alloc (.cells (taskA zT nilV) 51)).heap[b9]? = some (.cells (taskA zT nilV) 51 (0, 0))) := Lib.hid (by rw [← hb9]; exact heap_alloc_new w9 _)
              obtain ⟨w10, hw10⟩ : ∃ x, x = (w9.alloc (.cells #[.int .i32 0, .int .i64 0, .int .i64 0, .slice none 0 0, .int .i32 0, .int .i32 0, .int .i32 0, .int .i32 0, .int .i64 0, .int .i64 0, .int .u32 0, .int .i64 0] 51)).setRow b9 (taskA t (.slice A9 n9 c9)) := ⟨_, rfl⟩
              have hX10 : w10.heap[b9]? = some (.cells (taskA t (.slice A9 n9 c9)) 51 (0, 0)) := by rw [hw10]; exact row_at HZ10.out _
              have hB10 : Below w9.heap.size w9 w10 := by rw [hw10]; exact (below_alloc w9 _).trans (row_below (by omega))
              have HY8 : Hid (w10.heap[b7]? = some (.cells (taskA t (.slice A7 n7 c7)) 51 (0, 0))) := Lib.hid ((h9.below hB10).box List.mem_cons_self)
              have HY10 := Lib.hid hX10
              have HK10 := Lib.hid (h9.below hB10).sub
              have HSM := Lib.hid (refSame_any t t (.slice A7 n7 c7) (.slice A9 n9 c9) w10 (HI8.out w10 (hf9.then (Frm.of_below hB10))) (hi9.later hB10) HTL.out)
              rw [sameB_self] at HSM
              simp only [taskV, taskA] at HSM
              have HW10 := Lib.hid hw10
              have HB9 := Lib.hid hb9
              clear hi9 h9 hf9 hb9 hw10 hX10 hB10
              go_upto_region 28 with (first | (refine store_task rfl _ _ rfl rfl w9.heap.size t (.slice A9 n9 c9) rfl rfl _ zT nilV (by rw [HB9.out]; exact HZ10.out) rfl ?_) | fail)
              rw [HB9.out, ← HW10.out]
              have p0 : w10.cell? ⟨b7, 0, none⟩ = some (.int .i32 t.id) := cell_blk HY8.out 0
              have p1 : w10.cell? ⟨b7, 1, none⟩ = some (.int .i64 t.fn) := cell_blk HY8.out 1
              have p2 : w10.cell? ⟨b7, 2, none⟩ = some (.int .i64 t.pc) := cell_blk HY8.out 2
              have p3 : w10.cell? ⟨b7, 3, none⟩ = some (.slice A7 n7 c7) := cell_blk HY8.out 3
              have p4 : w10.cell? ⟨b7, 4, none⟩ = some (.int .i32 t.v0) := cell_blk HY8.out 4
              have p5 : w10.cell? ⟨b7, 5, none⟩ = some (.int .i32 t.v1) := cell_blk HY8.out 5
              have p6 : w10.cell? ⟨b7, 6, none⟩ = some (.int .i32 t.v2) := cell_blk HY8.out 6
              have p7 : w10.cell? ⟨b7, 7, none⟩ = some (.int .i32 t.v3) := cell_blk HY8.out 7
              have p8 : w10.cell? ⟨b7, 8, none⟩ = some (.int .i64 t.lb) := cell_blk HY8.out 8
              have p9 : w10.cell? ⟨b7, 9, none⟩ = some (.int .i64 t.cl) := cell_blk HY8.out 9
              have p10 : w10.cell? ⟨b7, 10, none⟩ = some (.int .u32 t.pv) := cell_blk HY8.out 10
              have p11 : w10.cell? ⟨b7, 11, none⟩ = some (.int .i64 t.wk) := cell_blk HY8.out 11
              have s0 : w10.cell? ⟨b9, 0, none⟩ = some (.int .i32 t.id) := cell_blk HY10.out 0
              have s1 : w10.cell? ⟨b9, 1, none⟩ = some (.int .i64 t.fn) := cell_blk HY10.out 1
              have s2 : w10.cell? ⟨b9, 2, none⟩ = some (.int .i64 t.pc) := cell_blk HY10.out 2
              have s3 : w10.cell? ⟨b9, 3, none⟩ = some (.slice A9 n9 c9) := cell_blk HY10.out 3
              have s4 : w10.cell? ⟨b9, 4, none⟩ = some (.int .i32 t.v0) := cell_blk HY10.out 4
              have s5 : w10.cell? ⟨b9, 5, none⟩ = some (.int .i32 t.v1) := cell_blk HY10.out 5
              have s6 : w10.cell? ⟨b9, 6, none⟩ = some (.int .i32 t.v2) := cell_blk HY10.out 6
              have s7 : w10.cell? ⟨b9, 7, none⟩ = some (.int .i32 t.v3) := cell_blk HY10.out 7
              have s8 : w10.cell? ⟨b9, 8, none⟩ = some (.int .i64 t.lb) := cell_blk HY10.out 8
              have s9 : w10.cell? ⟨b9, 9, none⟩ = some (.int .i64 t.cl) := cell_blk HY10.out 9
              have s10 : w10.cell? ⟨b9, 10, none⟩ = some (.int .u32 t.pv) := cell_blk HY10.out 10
              have s11 : w10.cell? ⟨b9, 11, none⟩ = some (.int .i64 t.wk) := cell_blk HY10.out 11
              go_wp2_with fail
              refine HSM.out.mono ?_
              rintro e w11 ⟨rfl, hb11⟩
              have HB11 := Lib.hid hb11
              clear hb11
              go_wp2_with fail
              go_meet
              exact ⟨Mx, HMX.out, HK10.out.below HB11.out⟩
            · have HP1 := Lib.hid (rqStealT HK.out)
              have HP2 := Lib.hid (fun wq X' (h : RqK wo wq ga b R M.tail M X') => rqStealTR h (by omega))
              obtain ⟨t, ht⟩ : ∃ y, firstT M = y := ⟨_, rfl⟩
              obtain ⟨yb, hyb⟩ : ∃ y, (!M.isEmpty) = y := ⟨_, rfl⟩
              obtain ⟨Mx, hMx⟩ : ∃ y, M.tail = y := ⟨_, rfl⟩
              have HTL : Hid (t.st.length ≤ 1000) := Lib.hid (by rw [← ht]; exact HM.out.first)
              have HMX : Hid (MR Mx) := Lib.hid (by rw [← hMx]; exact HM.out.sub fun x hx => List.mem_of_mem_tail hx)
              rw [ht, hyb, hMx] at HP1 HP2
              have r1 : (yb != yb) = false := bne_self_eq_false _
              clear ht hyb hMx
              go_wp2_with fail
              refine HP1.out.mono ?_
              rintro e w7 ⟨A7, n7, c7, rfl, h7, hi7⟩
              obtain ⟨b7, hb7⟩ : ∃ k, w7.heap.size = k := ⟨_, rfl⟩
              have HZ8 : Hid ((w7.alloc (.cells (taskA zT nilV) 51)).heap[b7]? = some (.cells (taskA zT nilV) 51 (0, 0))) := Lib.hid (by rw [← hb7]; exact heap_alloc_new w7 _)
              obtain ⟨w8, hw8⟩ : ∃ x, x = (w7.alloc (.cells #[.int .i32 0, .int .i64 0, .int .i64 0, .slice none 0 0, .int .i32 0, .int .i32 0, .int .i32 0, .int .i32 0, .int .i64 0, .int .i64 0, .int .u32 0, .int .i64 0] 51)).setRow b7 (taskA t (.slice A7 n7 c7)) := ⟨_, rfl⟩
              have hX8 : w8.heap[b7]? = some (.cells (taskA t (.slice A7 n7 c7)) 51 (0, 0)) := by rw [hw8]; exact row_at HZ8.out _
              have hB8 : Below w7.heap.size w7 w8 := by rw [hw8]; exact (below_alloc w7 _).trans (row_below (by omega))
              have h8 := h7.put hB8 (by omega) hX8
              have HP8 := Lib.hid (HP2.out w8 _ h8)
              have HI8 : Hid (∀ w2, Frm (fun i => i = b) w8 w2 → I32V w2 w2.heap.size (.slice A7 n7 c7) t.st) := Lib.hid fun w2 hf => hi7 w2 ((Frm.of_below hB8).then hf)
              have HW8 := Lib.hid hw8
              have HB7 := Lib.hid hb7
              clear h7 hi7 hb7 hw8 hX8 hB8 h8
              go_upto_region 32 with (first | (refine store_task rfl _ _ rfl rfl w7.heap.size t (.slice A7 n7 c7) rfl rfl _ zT nilV (by rw [HB7.out]; exact HZ8.out) rfl ?_) | fail)
              rw [HB7.out, ← HW8.out]
              go_wp2_with fail
              refine HP8.out.mono ?_
              rintro e w9 ⟨A9, n9, c9, rfl, hi9, h9, hf9⟩
              obtain ⟨b9, hb9⟩ : ∃ k, w9.heap.size = k := ⟨_, rfl⟩
              have HZ10 : Hid ((w9.alloc (.cells (taskA zT nilV) 51)).heap[b9]? = some (.cells (taskA zT nilV) 51 (0, 0))) := Lib.hid (by rw [← hb9]; exact heap_alloc_new w9 _)
              obtain ⟨w10, hw10⟩ : ∃ x, x = (w9.alloc (.cells #[.int .i32 0, .int .i64 0, .int .i64 0, .slice none 0 0, .int .i32 0, .int .i32 0, .int .i32 0, .int .i32 0, .int .i64 0, .int .i64 0, .int .u32 0, .int .i64 0] 51)).setRow b9 (taskA t (.slice A9 n9 c9)) := ⟨_, rfl⟩
              have hX10 : w10.heap[b9]? = some (.cells (taskA t (.slice A9 n9 c9)) 51 (0, 0)) := by rw [hw10]; exact row_at HZ10.out _
              have hB10 : Below w9.heap.size w9 w10 := by rw [hw10]; exact (below_alloc w9 _).trans (row_below (by omega))
              have HY8 : Hid (w10.heap[b7]? = some (.cells (taskA t (.slice A7 n7 c7)) 51 (0, 0))) := Lib.hid ((h9.below hB10).box List.mem_cons_self)
              have HY10 := Lib.hid hX10
              have HK10 := Lib.hid (h9.below hB10).sub
              have HSM := Lib.hid (refSame_any t t (.slice A7 n7 c7) (.slice A9 n9 c9) w10 (HI8.out w10 (hf9.then (Frm.of_below hB10))) (hi9.later hB10) HTL.out)
              rw [sameB_self] at HSM
              simp only [taskV, taskA] at HSM
              have HW10 := Lib.hid hw10
              have HB9 := Lib.hid hb9
              clear hi9 h9 hf9 hb9 hw10 hX10 hB10
              go_upto_region 33 with (first | (refine store_task rfl _ _ rfl rfl w9.heap.size t (.slice A9 n9 c9) rfl rfl _ zT nilV (by rw [HB9.out]; exact HZ10.out) rfl ?_) | fail)
              rw [HB9.out, ← HW10.out]
              have p0 : w10.cell? ⟨b7, 0, none⟩ = some (.int .i32 t.id) := cell_blk HY8.out 0
              have p1 : w10.cell? ⟨b7, 1, none⟩ = some (.int .i64 t.fn) := cell_blk HY8.out 1
              have p2 : w10.cell? ⟨b7, 2, none⟩ = some (.int .i64 t.pc) := cell_blk HY8.out 2
              have p3 : w10.cell? ⟨b7, 3, none⟩ = some (.slice A7 n7 c7) := cell_blk HY8.out 3
              have p4 : w10.cell? ⟨b7, 4, none⟩ = some (.int .i32 t.v0) := cell_blk HY8.out 4
              have p5 : w10.cell? ⟨b7, 5, none⟩ = some (.int .i32 t.v1) := cell_blk HY8.out 5
              have p6 : w10.cell? ⟨b7, 6, none⟩ = some (.int .i32 t.v2) := cell_blk HY8.out 6
              have p7 : w10.cell? ⟨b7, 7, none⟩ = some (.int .i32 t.v3) := cell_blk HY8.out 7
              have p8 : w10.cell? ⟨b7, 8, none⟩ = some (.int .i64 t.lb) := cell_blk HY8.out 8
              have p9 : w10.cell? ⟨b7, 9, none⟩ = some (.int .i64 t.cl) := cell_blk HY8.out 9
              have p10 : w10.cell? ⟨b7, 10, none⟩ = some (.int .u32 t.pv) := cell_blk HY8.out 10
              have p11 : w10.cell? ⟨b7, 11, none⟩ = some (.int .i64 t.wk) := cell_blk HY8.out 11
              have s0 : w10.cell? ⟨b9, 0, none⟩ = some (.int .i32 t.id) := cell_blk HY10.out 0
              have s1 : w10.cell? ⟨b9, 1, none⟩ = some (.int .i64 t.fn) := cell_blk HY10.out 1
              have s2 : w10.cell? ⟨b9, 2, none⟩ = some (.int .i64 t.pc) := cell_blk HY10.out 2
              have s3 : w10.cell? ⟨b9, 3, none⟩ = some (.slice A9 n9 c9) := cell_blk HY10.out 3
              have s4 : w10.cell? ⟨b9, 4, none⟩ = some (.int .i32 t.v0) := cell_blk HY10.out 4
              have s5 : w10.cell? ⟨b9, 5, none⟩ = some (.int .i32 t.v1) := cell_blk HY10.out 5
              have s6 : w10.cell? ⟨b9, 6, none⟩ = some (.int .i32 t.v2) := cell_blk HY10.out 6
              have s7 : w10.cell? ⟨b9, 7, none⟩ = some (.int .i32 t.v3) := cell_blk HY10.out 7
              have s8 : w10.cell? ⟨b9, 8, none⟩ = some (.int .i64 t.lb) := cell_blk HY10.out 8
              have s9 : w10.cell? ⟨b9, 9, none⟩ = some (.int .i64 t.cl) := cell_blk HY10.out 9
              have s10 : w10.cell? ⟨b9, 10, none⟩ = some (.int .u32 t.pv) := cell_blk HY10.out 10
              have s11 : w10.cell? ⟨b9, 11, none⟩ = some (.int .i64 t.wk) := cell_blk HY10.out 11
              go_wp2_with fail
              refine HSM.out.mono ?_
              rintro e w11 ⟨rfl, hb11⟩
              have HB11 := Lib.hid hb11
              clear hb11
              go_wp2_with fail
              go_meet
              exact ⟨Mx, HMX.out, HK10.out.below HB11.out⟩
            · have HP1 := Lib.hid (rqHalf HK.out)
              have HP2 := Lib.hid (fun wq Mp (h : RqK wo wq ga b R Mp M []) => rqHalfR h (by omega))
              obtain ⟨q, hq⟩ : ∃ y, (M.length + 1) / 2 = y := ⟨_, rfl⟩
              rw [hq] at HP1 HP2
              have HLE : Hid ((M.take q).length ≤ 100000) := Lib.hid (by rw [List.length_take]; omega)
              obtain ⟨Mh, hMh⟩ : ∃ y, M.take q = y := ⟨_, rfl⟩
              obtain ⟨Mx, hMx⟩ : ∃ y, M.drop q = y := ⟨_, rfl⟩
              have HMX : Hid (MR Mx) := Lib.hid (by rw [← hMx]; exact HM.out.sub fun x hx => List.mem_of_mem_drop hx)
              have HMH : Hid (MR Mh) := Lib.hid (by rw [← hMh]; exact HM.out.sub fun x hx => List.mem_of_mem_take hx)
              rw [hMh, hMx] at HP1 HP2
              rw [hMh] at HLE
              clear hq hMh hMx
              go_wp2_with fail
              refine HP1.out.mono ?_
              rintro e w7 ⟨v7, L7, rfl, ho7, hm7, h7, hi7⟩
              obtain ⟨A7, c7, rfl⟩ := ho7.shape
              have HO7 := Lib.hid ho7; have HM7 := Lib.hid hm7; have HI7 := Lib.hid hi7
              have HB5 : Hid (b < wr.heap.size) := Lib.hid HK.out.list.1
              have HP8 := Lib.hid (HP2.out w7 _ h7)
              clear h7 hi7 ho7 hm7
              go_wp2_with fail
              refine HP8.out.mono ?_
              rintro e w9 ⟨v9, L9, rfl, ht9, hm9, h9, hf9⟩
              obtain ⟨A9, c9, e9⟩ : ∃ A c, v9 = .slice A L9.length c := by obtain ⟨A, c, e, _⟩ := ht9; exact ⟨A, c, e⟩
              subst e9
              have hT7 : TasksV w9 (.slice A7 L7.length c7) L7 := TasksV.of_own (OwnT.frm HO7.out hf9 (fun i hi e => by have := HB5.out; omega)) fun x hx => ⟨HI7.out w9 hf9 x hx, HMH.out x.1 (by rw [← HM7.out]; exact List.mem_map_of_mem hx)⟩
              have HSA := Lib.hid (refSameAll_any hT7 ht9 (by rw [HM7.out, hm9]) (by have := congrArg List.length HM7.out; rw [List.length_map] at this; have := HLE.out; omega))
              have H9 := Lib.hid h9
              clear ht9 hm9 h9 hf9 hT7 HO7 HI7 HM7
              generalize L7.length = k7 at *
              generalize L9.length = k9 at *
              go_wp2_with fail
              refine HSA.out.mono ?_
              rintro e w11 ⟨rfl, hb11⟩
              have HB11 := Lib.hid hb11
              clear hb11
              go_wp2_with fail
              go_meet
              exact ⟨Mx, HMX.out, H9.out.below HB11.out⟩
          case rest =>
            obtain ⟨Mx, hM, hK⟩ := hcut
            have HMR := Lib.hid hM
            have hl := hK.len
            obtain ⟨hblt, _, A2, c2, L2, q1, hT2, hm2⟩ := hK.list
            have hl2 : L2.length = Mx.length := by have := congrArg List.length hm2; simpa using this
            obtain ⟨n, hn⟩ : ∃ n, Mx.length = n := ⟨_, rfl⟩
            rw [hn] at hl2 hl
            rw [hl2] at q1 hT2
            have HN := Lib.hid hn
            have HM2 := Lib.hid hm2
            have hn64 : n ≤ 64 := by omega
            have HS0 : Hid (RzS wo ga b R n c2 A2 Mx L2 wc.drew) := Lib.hid ⟨hK.below ⟨rfl, rfl, rfl, Nat.le_refl _, fun _ _ => rfl⟩, q1, hT2.later ⟨rfl, rfl, rfl, Nat.le_refl _, fun _ _ => rfl⟩⟩
            have s5 : ((n : Int) != (n : Int)) = false := bne_self_eq_false _
            clear hM hK hT2 hm2 hl2 hn hl q1
            go_wp2_with fail
            refine Reg.wp_facts_sl [128, 129, 130, 131, 132, 133, 134, 135, 136, 137, 138, 139, 140, 141, 142, 143, 144, 145] rfl [] [[], [(0, 128)], [], [(2, 130)], [(3, 131)], [(4, 132)], [(5, 133)], [(1, 129), (6, 134)], [(7, 135)], [], [(9, 137)], [], [(11, 139)], [(12, 140)], [(13, 141)], [(10, 138), (14, 142)], [(15, 143)], [(8, 136), (16, 144)]] [(17, 145)] (Reg.Known (rg35Val ga b n c2 A2) (XR Mx n) [10]) (fun _ wi => RzS wo ga b R n c2 A2 Mx L2 wi) (by kernel_rfl) (by kernel_rfl) ?start ?steps ?finish
            case start => exact HS0.out
            case steps =>
              refine Reg.Steps.zip ?_ ?_
              · refine Reg.step_go rfl ?_
                intro a wi ki hf hd hS hc K hK
                have f7 : a.tmps.getD 7 undef = .pointer (some ⟨ga, 0, none⟩) := hf.same 7 rfl
                clear hf hd hc
                have hK0 := Lib.hid hK; clear hK
                have hS0 := Lib.hid hS; clear hS
                go_simp
                exact hK0.out _ _ (Reg.Known.mk_val rfl rfl) (fun _ _ h => h) hS0.out
              refine Reg.Steps.zip ?_ ?_
              · refine Reg.step_go rfl ?_
                intro a wi ki hf hd hS hc K hK
                have e128 : a.tmps.getD 128 undef = .pointer (some ⟨ga, 0, none⟩) := hd.1.plain rfl
                clear hf hd
                have HS := Lib.hid hS; clear hS
                have hK0 := Lib.hid hK; clear hK hc
                go_simp
                refine (rqLen HS.out.k).mono ?_
                rw [HN.out]
                rintro e wA ⟨rfl, rfl⟩
                exact hK0.out _ _ (Reg.Known.mk_val rfl rfl) (fun _ _ h => h) HS.out
              refine Reg.Steps.zip ?_ ?_
              · refine Reg.step_go rfl ?_
                intro a wi ki hf hd hS hc K hK
                have f8 : a.tmps.getD 8 undef = .pointer (some ⟨b, 0, none⟩) := hf.same 8 rfl
                clear hf hd hc
                have hK0 := Lib.hid hK; clear hK
                have hS0 := Lib.hid hS; clear hS
                go_simp
                exact hK0.out _ _ (Reg.Known.mk_val rfl rfl) (fun _ _ h => h) hS0.out
              refine Reg.Steps.zip ?_ ?_
              · refine Reg.step_go rfl ?_
                intro a wi ki hf hd hS hc K hK
                have e130 : a.tmps.getD 130 undef = .pointer (some ⟨b, 0, none⟩) := hd.1.plain rfl
                clear hf hd hc
                have hK0 := Lib.hid hK; clear hK
                have hS0 := Lib.hid hS; clear hS
                go_simp
                exact hK0.out _ _ (Reg.Known.mk_val rfl rfl) (fun _ _ h => h) hS0.out
              refine Reg.Steps.zip ?_ ?_
              · refine Reg.step_go rfl ?_
                intro a wi ki hf hd hS hc K hK
                have e131 : a.tmps.getD 131 undef = .pointer (some ⟨b, 0, none⟩) := hd.1.plain rfl
                clear hf hd hc
                have hK0 := Lib.hid hK; clear hK
                have hS0 := Lib.hid hS; clear hS
                go_simp
                exact hK0.out _ _ (Reg.Known.mk_val rfl rfl) (fun _ _ h => h) hS0.out
              refine Reg.Steps.zip ?_ ?_
              · refine Reg.step_go rfl ?_
                intro a wi ki hf hd hS hc K hK
                have e132 : a.tmps.getD 132 undef = .pointer (some ⟨b, 1, none⟩) := hd.1.plain rfl
                clear hf hd hc
                have cbi : wi.cell? ⟨b, 1, none⟩ = some (.slice A2 n c2) := hS.cb
                have hK0 := Lib.hid hK; clear hK
                have hS0 := Lib.hid hS; clear hS
                go_simp
                exact hK0.out _ _ (Reg.Known.mk_val rfl rfl) (fun _ _ h => h) hS0.out
              refine Reg.Steps.zip ?_ ?_
              · refine Reg.step_go rfl ?_
                intro a wi ki hf hd hS hc K hK
                have e133 : a.tmps.getD 133 undef = .slice A2 n c2 := hd.1.plain rfl
                clear hf hd hc
                have hK0 := Lib.hid hK; clear hK
                have hS0 := Lib.hid hS; clear hS
                go_simp
                exact hK0.out _ _ (Reg.Known.mk_val rfl rfl) (fun _ _ h => h) hS0.out
              refine Reg.Steps.zip ?_ ?_
              · refine Reg.step_go rfl ?_
                intro a wi ki hf hd hS hc K hK
                have e129 : a.tmps.getD 129 undef = .int .i64 (n : Int) := hd.1.plain rfl
                have e134 : a.tmps.getD 134 undef = .int .i64 (n : Int) := hd.2.1.plain rfl
                clear hf hd hc
                have hK0 := Lib.hid hK; clear hK
                have hS0 := Lib.hid hS; clear hS
                go_simp
                exact hK0.out _ _ (Reg.Known.mk_val rfl rfl) (fun _ _ h => h) hS0.out
              refine Reg.Steps.zip ?_ ?_
              · refine Reg.step_go rfl ?_
                intro a wi ki hf hd hS hc K hK
                have e135 : a.tmps.getD 135 undef = .bool false := hd.1.plain rfl
                clear hf hd hc
                have hK0 := Lib.hid hK; clear hK
                have hS0 := Lib.hid hS; clear hS
                go_simp
                exact hK0.out _ _ (Reg.Known.mk_val rfl rfl) (fun _ _ h => h) hS0.out
              refine Reg.Steps.zip ?_ ?_
              · refine Reg.step_on rfl (fun u w h => h.plain rfl) ?_
                intro a wi ki hf hd hS hc K hK
                have f7 : a.tmps.getD 7 undef = .pointer (some ⟨ga, 0, none⟩) := hf.same 7 rfl
                clear hf hd hc
                have hK0 := Lib.hid hK; clear hK
                have hS0 := Lib.hid hS; clear hS
                go_simp
                exact hK0.out _ _ (Reg.Known.mk_val rfl rfl) (fun _ _ h => h) hS0.out
              refine Reg.Steps.zip ?_ ?_
              · refine Reg.step_on rfl (fun u w h => h.plain rfl) ?_
                intro a wi ki hf hd hS hc K hK
                have e137 : a.tmps.getD 137 undef = .pointer (some ⟨ga, 0, none⟩) := hd.1.plain rfl
                clear hf hd
                have HS := Lib.hid hS; clear hS
                have hK0 := Lib.hid hK; clear hK hc
                go_simp
                refine (rqAll HS.out.k HMR.out).mono ?_
                unfold RqAl
                rw [HN.out]
                rintro e wA ⟨AA, cA, LA, rfl, hT, hm, hB⟩
                exact hK0.out _ _ (Reg.Known.mk_other rfl ⟨AA, cA, LA, rfl, hT, hm⟩) (fun i u h => known_list hB h) (HS.out.later hB)
              refine Reg.Steps.zip ?_ ?_
              · refine Reg.step_on rfl (fun u w h => h.plain rfl) ?_
                intro a wi ki hf hd hS hc K hK
                have f8 : a.tmps.getD 8 undef = .pointer (some ⟨b, 0, none⟩) := hf.same 8 rfl
                clear hf hd hc
                have hK0 := Lib.hid hK; clear hK
                have hS0 := Lib.hid hS; clear hS
                go_simp
                exact hK0.out _ _ (Reg.Known.mk_val rfl rfl) (fun _ _ h => h) hS0.out
              refine Reg.Steps.zip ?_ ?_
              · refine Reg.step_on rfl (fun u w h => h.plain rfl) ?_
                intro a wi ki hf hd hS hc K hK
                have e139 : a.tmps.getD 139 undef = .pointer (some ⟨b, 0, none⟩) := hd.1.plain rfl
                clear hf hd hc
                have hK0 := Lib.hid hK; clear hK
                have hS0 := Lib.hid hS; clear hS
                go_simp
                exact hK0.out _ _ (Reg.Known.mk_val rfl rfl) (fun _ _ h => h) hS0.out
              refine Reg.Steps.zip ?_ ?_
              · refine Reg.step_on rfl (fun u w h => h.plain rfl) ?_
                intro a wi ki hf hd hS hc K hK
                have e140 : a.tmps.getD 140 undef = .pointer (some ⟨b, 0, none⟩) := hd.1.plain rfl
                clear hf hd hc
                have hK0 := Lib.hid hK; clear hK
                have hS0 := Lib.hid hS; clear hS
                go_simp
                exact hK0.out _ _ (Reg.Known.mk_val rfl rfl) (fun _ _ h => h) hS0.out
              refine Reg.Steps.zip ?_ ?_
              · refine Reg.step_on rfl (fun u w h => h.plain rfl) ?_
                intro a wi ki hf hd hS hc K hK
                have e141 : a.tmps.getD 141 undef = .pointer (some ⟨b, 1, none⟩) := hd.1.plain rfl
                clear hf hd hc
                have cbi : wi.cell? ⟨b, 1, none⟩ = some (.slice A2 n c2) := hS.cb
                have hK0 := Lib.hid hK; clear hK
                have hS0 := Lib.hid hS; clear hS
                go_simp
                exact hK0.out _ _ (Reg.Known.mk_val rfl rfl) (fun _ _ h => h) hS0.out
              refine Reg.Steps.zip ?_ ?_
              · refine Reg.step_on rfl (fun u w h => h.plain rfl) ?_
                intro a wi ki hf hd hS hc K hK
                have x138 := hd.1.other rfl
                have e142 : a.tmps.getD 142 undef = .slice A2 n c2 := hd.2.1.plain rfl
                clear hf hd
                have y138 : ∃ A c L, a.tmps.getD 138 undef = .slice A n c ∧ TasksV wi (.slice A n c) L ∧ L.map Prod.fst = Mx := x138
                clear x138
                obtain ⟨AA, cA, LA, eA, hT, hm⟩ := y138
                have HT := Lib.hid hT; have HMA := Lib.hid hm; clear hT hm
                have HS := Lib.hid hS; clear hS
                have hK0 := Lib.hid hK; clear hK hc
                go_simp
                refine (refSameAll_any HT.out HS.out.tv (by rw [HMA.out, HM2.out]) (by have := congrArg List.length HMA.out; rw [List.length_map, HN.out] at this; omega)).mono ?_
                rintro e wA ⟨rfl, hbA⟩
                exact hK0.out _ _ (Reg.Known.mk_val rfl rfl) (fun i u h => known_list hbA h) (HS.out.later hbA)
              refine Reg.Steps.zip ?_ ?_
              · refine Reg.step_on rfl (fun u w h => h.plain rfl) ?_
                intro a wi ki hf hd hS hc K hK
                have e143 : a.tmps.getD 143 undef = .bool true := hd.1.plain rfl
                clear hf hd hc
                have hK0 := Lib.hid hK; clear hK
                have hS0 := Lib.hid hS; clear hS
                go_simp
                exact hK0.out _ _ (Reg.Known.mk_val rfl rfl) (fun _ _ h => h) hS0.out
              refine Reg.Steps.zip ?_ ?_
              · refine Reg.step_go rfl ?_
                intro a wi ki hf hd hS hc K hK
                have e136 : a.tmps.getD 136 undef = .bool false := hd.1.plain rfl
                have e144 : a.tmps.getD 144 undef = .bool false := hd.2.1.plain rfl
                clear hf hd hc
                have hK0 := Lib.hid hK; clear hK
                have hS0 := Lib.hid hS; clear hS
                go_simp
                exact hK0.out _ _ (Reg.Known.mk_val rfl rfl) (fun _ _ h => h) hS0.out
              exact Reg.Steps.nil
            case finish =>
              intro a8 w8 hf hd hS8
              obtain ⟨u, hu⟩ : ∃ u : Nat → Value, u = fun s => a8.tmps.getD s undef := ⟨_, rfl⟩
              have e145 : u 145 = .bool false := by rw [hu]; exact hd.1.plain rfl
              rw [hf.eq, ← hu]
              clear hf hu hd
              have S8 := Lib.hid hS8
              clear hS8 HS0
              simp (config := { maxSteps := 10000000 }) [Reg.filled, e145]
              clear e145
              go_wp2_with fail
              go_roundw
              case rel => exact ⟨m + 1, Mx, by omega, by go_num, S8.out.k, HMR.out⟩
              case measure => simp [intOf]; omega
        · obtain rfl : N1 = m := by omega
          have hj2 := HJ2.out
          go_wp2_with fail
          go_roundw
          case rel => exact ⟨j + 1, by omega, by go_num, HBP.out _ HK.out.bl⟩
          case measure => simp [intOf]; omega
    · obtain rfl : j = 2 := by omega
      rw [show ((2 : Nat) : Int) = 2 from rfl]
      have HF : Hid (Below w.heap.size w wo) := Lib.hid (nextB BP.out hb)
      clear hb
      go_wp2_with fail
      go_ret
      exact ⟨rfl, HF.out⟩

/- The claim. -/

set_option maxRecDepth 100000 in
theorem lifted (os : Os) (started : os.Started) (H : Type) (enc : TypeId × Value → H) :
    ReturnsInHanded {} Try.checked os 6 .any (Rows.ringPlaysSpec.pre6 enc Try.prog Try.f6 Rows.ringPlaysRow.domain false) (Rows.ringPlaysSpec.post enc Try.prog Try.f6 false true false false) := by
  refine returnsInHanded_of_change (C := Try.checked) ownKnobs started (by kernel_rfl) Try.func6
    (ChangeSpec.witness6 (enc := enc) (C := Try.checked) false ⟨#[], #[.int .i64 0, .slice none 0 0], []⟩ 8 (by kernel_rfl) (by kernel_rfl) (by kernel_rfl) (by kernel_rfl)) ?_
  intro W base args ds gs before hval hW _ _
  refine law_contract rfl rfl (fun ds h => by match ds, h with | [d1, d2], _ => rfl) (by decide +kernel) hW ?_
  obtain ⟨p, q, hA0, _⟩ := hW
  have hA : DataW.TrodAll enc Try.prog W 0 (fun _ => true) true Try.f6.params.toList args.toList ds p := hA0
  have hval' : ∀ (j : Nat) t v, Try.f6.params[j]? = some t → args[j]? = some v → Value.okWide Try.prog W .any base t v := hval
  rw [Try.params6] at hA hval'
  obtain ⟨v0, vs0, d0, ds0, p0, q0, hargs, rfl, rfl, h0, r0⟩ := trodAll_cons hA
  obtain ⟨v1, vs1, d1, ds1, p1, q1, rfl, rfl, rfl, h1, r1⟩ := trodAll_cons r0
  obtain ⟨rfl, rfl, rfl⟩ := trodAll_nil r1
  obtain rfl : args = #[v0, v1] := by cases args; simp_all
  obtain ⟨a0, rfl, rfl, rfl, w0⟩ := open_int Try.underlying3 (hval' 0 _ v0 rfl rfl) h0
  have b0 : -9223372036854775808 ≤ a0 ∧ a0 ≤ 9223372036854775807 := by simpa [Lit.wf, IntKind.min, IntKind.max, IntKind.signed, IntKind.bits] using w0
  obtain ⟨l1, h1, m1, y1⟩ := open_bytv (hval' 1 _ v1 rfl rfl) h1
  exact walk a0 v1 l1 W h1 m1 y1

theorem proved : Rows.RingPlaysSaid :=
  OpenClaim.holds_of_wide 6 Try.f6 rfl rfl rfl rfl rfl rfl rfl ⟨rfl, rfl, rfl, rfl, rfl⟩ rfl rfl rfl rfl rfl (by kernel_rfl) Try.func6 (by kernel_rfl)
    (of_decide_eq_true (by kernel_rfl)) (by unfold Func.isWrapper; first | (rw [if_pos (by decide +kernel)]; kernel_rfl) | (rw [if_neg (by decide +kernel)]; exact ⟨rfl, rfl⟩))
    (fun os started H enc _ => lifted os started H enc)

end Go.Proofs.Ytlmbjnegajiphaa.ringPlays
