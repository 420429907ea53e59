/- Whether two tasks are the same: by package task and by the reference. (Written by gen/mksame.py.) -/
import Derived.Test.YtlmbjnegajiphaaTk10
import Derived.DeepKeys
namespace Go.Proofs.Ytlmbjnegajiphaa
set_option maxRecDepth 100000
open Go.RowKit

def varsB (a b : TK) : Bool := a.v0 == b.v0 && a.v1 == b.v1 && a.v2 == b.v2 && a.v3 == b.v3
def sameB (a b : TK) : Bool := a.id == b.id && a.fn == b.fn && a.pc == b.pc && intsB a.st b.st && varsB a b && a.lb == b.lb && a.cl == b.cl && a.pv == b.pv && a.wk == b.wk
theorem sameB_self (a : TK) : sameB a a = true := by simp [sameB, varsB, intsB]
theorem size_i32 (w : World) : (sizeOf 21).run Try.prog w = .ok 1 w := by kernel_rfl
theorem part_i32 (cs : Array Value) (i : Nat) (v : Value) (w : World) (h : cs[i]? = some v) : (part 21 cs i).run Try.prog w = .ok v w := by
  have hagg : (isAgg 21).run Try.prog w = .ok false w := by kernel_rfl
  unfold part
  rw [Sem.run_bind, hagg]
  simp [h]
theorem eqi_i32 (d : Nat) (a b : Int) (w : World) : (Op.equalIn (d + 1) 21 (.int .i32 a) (.int .i32 b)).run Try.prog w = .ok (a == b) w := run_equalIn_int w d _ .i32 .i32 a b Try.underlying21
theorem info_i32' : ∃ i, Try.prog.info? 21 = some i ∧ i.size = 1 := by
  obtain ⟨i, h1, _, h2, _⟩ := info_parts inf_i32
  exact ⟨i, h1, h2⟩
@[go_sem] theorem eqIn_vars (a0 a1 a2 a3 b0 b1 b2 b3 : Int) (w : World) : Sem.run Try.prog (Op.equalIn 10000 48 (.agg #[.int .i32 a0, .int .i32 a1, .int .i32 a2, .int .i32 a3]) (.agg #[.int .i32 b0, .int .i32 b1, .int .i32 b2, .int .i32 b3])) w = .ok (a0 == b0 && a1 == b1 && a2 == b2 && a3 == b3) w := by
  have h0 := fun (x0 x1 x2 x3 : Int) w => part_i32 #[.int .i32 x0, .int .i32 x1, .int .i32 x2, .int .i32 x3] 0 (.int .i32 x0) w rfl
  have h1 := fun (x0 x1 x2 x3 : Int) w => part_i32 #[.int .i32 x0, .int .i32 x1, .int .i32 x2, .int .i32 x3] 1 (.int .i32 x1) w rfl
  have h2 := fun (x0 x1 x2 x3 : Int) w => part_i32 #[.int .i32 x0, .int .i32 x1, .int .i32 x2, .int .i32 x3] 2 (.int .i32 x2) w rfl
  have h3 := fun (x0 x1 x2 x3 : Int) w => part_i32 #[.int .i32 x0, .int .i32 x1, .int .i32 x2, .int .i32 x3] 3 (.int .i32 x3) w rfl
  have he := fun (a b : Int) w => eqi_i32 9998 a b w
  show (Op.equalIn (9999 + 1) _ _ _).run _ _ = _
  obtain ⟨i, hi, hs⟩ := info_i32'
  have hc : Try.prog.cellsOf 21 = 1 := by kernel_rfl
  rw [run_equalIn_array w 9999 _ _ Try.underlying48 hi, show List.range 4 = [0, 1, 2, 3] from rfl]
  simp only [hc, Op.eqItems, Sem.run_bind, Nat.mul_one, h0, Result.andThen_ok]
  cases e0 : (a0 == b0) <;> cases e1 : (a1 == b1) <;> cases e2 : (a2 == b2) <;> cases e3 : (a3 == b3) <;> simp [he, e0, e1, e2, e3, h1, h2, h3]

set_option maxRecDepth 100000 in
set_option maxHeartbeats 8000000 in
theorem same_any (a b : TK) (sa sb : Value) (w : World) (ha : I32V w w.heap.size sa a.st) (hb : I32V w w.heap.size sb b.st) (hm : a.st.length ≤ 1000) :
    Calls Try.prog 30 #[taskV a sa, taskV b sb] w fun e w' => e = .returned (.bool (sameB a b)) ∧ Below w.heap.size w w' := by
  obtain ⟨r, hr⟩ : ∃ r, sameB a b = r := ⟨_, rfl⟩
  rw [hr]
  have HR : Hid (r = (a.id == b.id && a.fn == b.fn && a.pc == b.pc && intsB a.st b.st && varsB a b && a.lb == b.lb && a.cl == b.cl && a.pv == b.pv && a.wk == b.wk)) := Lib.hid hr.symm
  clear hr
  have HA := Lib.hid ha; have HB := Lib.hid hb
  obtain ⟨A1, c1, rfl, _, _⟩ := ha
  obtain ⟨A2, c2, rfl, _, _⟩ := hb
  obtain ⟨n1, hn1⟩ : ∃ n, a.st.length = n := ⟨_, rfl⟩
  obtain ⟨n2, hn2⟩ : ∃ n, b.st.length = n := ⟨_, rfl⟩
  have HM := Lib.hid hm
  rw [hn1] at HA ⊢; rw [hn2] at HB ⊢
  obtain ⟨ib, hib⟩ : ∃ ib, intsB a.st b.st = ib := ⟨_, rfl⟩
  have HI : Hid (∀ w', Below w.heap.size w w' → Calls Try.prog 72 #[.slice A1 n1 c1, .slice A2 n2 c2] w' fun e w'' => e = .returned (.bool ib) ∧ Below w'.heap.size w' w'') := Lib.hid fun w' h => by rw [← hib]; exact equal_any w' (HA.out.later h) (HB.out.later h) HM.out
  rw [hib] at HR
  have hbb := nextB (below_alloc w (.cells (taskA a (.slice A1 n1 c1)) 51)) (below_alloc _ (.cells (taskA b (.slice A2 n2 c2)) 51))
  have HB2 := Lib.hid hbb
  have h1 : ((w.alloc (.cells (taskA a (.slice A1 n1 c1)) 51)).alloc (.cells (taskA b (.slice A2 n2 c2)) 51)).heap[w.heap.size]? = some (.cells (taskA a (.slice A1 n1 c1)) 51 (0, 0)) := heapOld (heapNew rfl)
  have h2 : ((w.alloc (.cells (taskA a (.slice A1 n1 c1)) 51)).alloc (.cells (taskA b (.slice A2 n2 c2)) 51)).heap[w.heap.size + 1]? = some (.cells (taskA b (.slice A2 n2 c2)) 51 (0, 0)) := heapNew (by simp)
  obtain ⟨w2, hw2⟩ : ∃ w2, w2 = (w.alloc (.cells (taskA a (.slice A1 n1 c1)) 51)).alloc (.cells (taskA b (.slice A2 n2 c2)) 51) := ⟨_, rfl⟩
  rw [← hw2] at HB2 h1 h2
  have H1 := Lib.hid h1; have H2 := Lib.hid h2
  clear hn1 hn2 hib hm h1 h2
  unfold taskV taskA
  go_enter Try.func30, Try.ntmps30
  go_upto_region 1 with (fail)
  rw [show Code.wp Try.prog _ _ _ _ = Code.wp Try.prog _ _ _ w2 from by rw [hw2]; rfl]
  clear hw2 hbb
  have d0_0 : w2.cell? ⟨w.heap.size, 0, none⟩ = some (.int .i32 a.id) := cell_blk H1.out 0
  have d0_1 : w2.cell? ⟨w.heap.size, 1, none⟩ = some (.int .i64 a.fn) := cell_blk H1.out 1
  have d0_2 : w2.cell? ⟨w.heap.size, 2, none⟩ = some (.int .i64 a.pc) := cell_blk H1.out 2
  have d0_3 : w2.cell? ⟨w.heap.size, 3, none⟩ = some (.slice A1 n1 c1) := cell_blk H1.out 3
  have d0_4 : w2.cell? ⟨w.heap.size, 4, none⟩ = some (.int .i32 a.v0) := cell_blk H1.out 4
  have d0_5 : w2.cell? ⟨w.heap.size, 5, none⟩ = some (.int .i32 a.v1) := cell_blk H1.out 5
  have d0_6 : w2.cell? ⟨w.heap.size, 6, none⟩ = some (.int .i32 a.v2) := cell_blk H1.out 6
  have d0_7 : w2.cell? ⟨w.heap.size, 7, none⟩ = some (.int .i32 a.v3) := cell_blk H1.out 7
  have d0_8 : w2.cell? ⟨w.heap.size, 8, none⟩ = some (.int .i64 a.lb) := cell_blk H1.out 8
  have d0_9 : w2.cell? ⟨w.heap.size, 9, none⟩ = some (.int .i64 a.cl) := cell_blk H1.out 9
  have d0_10 : w2.cell? ⟨w.heap.size, 10, none⟩ = some (.int .u32 a.pv) := cell_blk H1.out 10
  have d0_11 : w2.cell? ⟨w.heap.size, 11, none⟩ = some (.int .i64 a.wk) := cell_blk H1.out 11
  have d1_0 : w2.cell? ⟨w.heap.size + 1, 0, none⟩ = some (.int .i32 b.id) := cell_blk H2.out 0
  have d1_1 : w2.cell? ⟨w.heap.size + 1, 1, none⟩ = some (.int .i64 b.fn) := cell_blk H2.out 1
  have d1_2 : w2.cell? ⟨w.heap.size + 1, 2, none⟩ = some (.int .i64 b.pc) := cell_blk H2.out 2
  have d1_3 : w2.cell? ⟨w.heap.size + 1, 3, none⟩ = some (.slice A2 n2 c2) := cell_blk H2.out 3
  have d1_4 : w2.cell? ⟨w.heap.size + 1, 4, none⟩ = some (.int .i32 b.v0) := cell_blk H2.out 4
  have d1_5 : w2.cell? ⟨w.heap.size + 1, 5, none⟩ = some (.int .i32 b.v1) := cell_blk H2.out 5
  have d1_6 : w2.cell? ⟨w.heap.size + 1, 6, none⟩ = some (.int .i32 b.v2) := cell_blk H2.out 6
  have d1_7 : w2.cell? ⟨w.heap.size + 1, 7, none⟩ = some (.int .i32 b.v3) := cell_blk H2.out 7
  have d1_8 : w2.cell? ⟨w.heap.size + 1, 8, none⟩ = some (.int .i64 b.lb) := cell_blk H2.out 8
  have d1_9 : w2.cell? ⟨w.heap.size + 1, 9, none⟩ = some (.int .i64 b.cl) := cell_blk H2.out 9
  have d1_10 : w2.cell? ⟨w.heap.size + 1, 10, none⟩ = some (.int .u32 b.pv) := cell_blk H2.out 10
  have d1_11 : w2.cell? ⟨w.heap.size + 1, 11, none⟩ = some (.int .i64 b.wk) := cell_blk H2.out 11
  by_cases q_id : a.id = b.id
  rotate_left
  · have e_id : (a.id == b.id) = false := by simpa using q_id
    go_wp2_with fail
    go_ret
    exact ⟨congrArg (fun z => Ending.returned (.bool z)) (by rw [HR.out]; simp [e_id]), HB2.out⟩
  have e_id : (a.id == b.id) = true := by simpa using q_id
  by_cases q_fn : a.fn = b.fn
  rotate_left
  · have e_fn : (a.fn == b.fn) = false := by simpa using q_fn
    go_wp2_with fail
    go_ret
    exact ⟨congrArg (fun z => Ending.returned (.bool z)) (by rw [HR.out]; simp [e_id, e_fn]), HB2.out⟩
  have e_fn : (a.fn == b.fn) = true := by simpa using q_fn
  by_cases q_pc : a.pc = b.pc
  rotate_left
  · have e_pc : (a.pc == b.pc) = false := by simpa using q_pc
    go_wp2_with fail
    go_ret
    exact ⟨congrArg (fun z => Ending.returned (.bool z)) (by rw [HR.out]; simp [e_id, e_fn, e_pc]), HB2.out⟩
  have e_pc : (a.pc == b.pc) = true := by simpa using q_pc
  go_wp2_with fail
  refine (HI.out w2 HB2.out).mono ?_
  rintro e w3 ⟨rfl, hb3⟩
  have G1 := Lib.hid (heapLater hb3 (Array.getElem?_eq_some_iff.1 H1.out).1 H1.out); have G2 := Lib.hid (heapLater hb3 (Array.getElem?_eq_some_iff.1 H2.out).1 H2.out)
  have HB3 := Lib.hid (nextB HB2.out hb3)
  clear d0_0 d1_0 d0_1 d1_1 d0_2 d1_2 d0_3 d1_3 d0_4 d1_4 d0_5 d1_5 d0_6 d1_6 d0_7 d1_7 d0_8 d1_8 d0_9 d1_9 d0_10 d1_10 d0_11 d1_11 hb3
  have d0_0 : w3.cell? ⟨w.heap.size, 0, none⟩ = some (.int .i32 a.id) := cell_blk G1.out 0
  have d0_1 : w3.cell? ⟨w.heap.size, 1, none⟩ = some (.int .i64 a.fn) := cell_blk G1.out 1
  have d0_2 : w3.cell? ⟨w.heap.size, 2, none⟩ = some (.int .i64 a.pc) := cell_blk G1.out 2
  have d0_3 : w3.cell? ⟨w.heap.size, 3, none⟩ = some (.slice A1 n1 c1) := cell_blk G1.out 3
  have d0_4 : w3.cell? ⟨w.heap.size, 4, none⟩ = some (.int .i32 a.v0) := cell_blk G1.out 4
  have d0_5 : w3.cell? ⟨w.heap.size, 5, none⟩ = some (.int .i32 a.v1) := cell_blk G1.out 5
  have d0_6 : w3.cell? ⟨w.heap.size, 6, none⟩ = some (.int .i32 a.v2) := cell_blk G1.out 6
  have d0_7 : w3.cell? ⟨w.heap.size, 7, none⟩ = some (.int .i32 a.v3) := cell_blk G1.out 7
  have d0_8 : w3.cell? ⟨w.heap.size, 8, none⟩ = some (.int .i64 a.lb) := cell_blk G1.out 8
  have d0_9 : w3.cell? ⟨w.heap.size, 9, none⟩ = some (.int .i64 a.cl) := cell_blk G1.out 9
  have d0_10 : w3.cell? ⟨w.heap.size, 10, none⟩ = some (.int .u32 a.pv) := cell_blk G1.out 10
  have d0_11 : w3.cell? ⟨w.heap.size, 11, none⟩ = some (.int .i64 a.wk) := cell_blk G1.out 11
  have d1_0 : w3.cell? ⟨w.heap.size + 1, 0, none⟩ = some (.int .i32 b.id) := cell_blk G2.out 0
  have d1_1 : w3.cell? ⟨w.heap.size + 1, 1, none⟩ = some (.int .i64 b.fn) := cell_blk G2.out 1
  have d1_2 : w3.cell? ⟨w.heap.size + 1, 2, none⟩ = some (.int .i64 b.pc) := cell_blk G2.out 2
  have d1_3 : w3.cell? ⟨w.heap.size + 1, 3, none⟩ = some (.slice A2 n2 c2) := cell_blk G2.out 3
  have d1_4 : w3.cell? ⟨w.heap.size + 1, 4, none⟩ = some (.int .i32 b.v0) := cell_blk G2.out 4
  have d1_5 : w3.cell? ⟨w.heap.size + 1, 5, none⟩ = some (.int .i32 b.v1) := cell_blk G2.out 5
  have d1_6 : w3.cell? ⟨w.heap.size + 1, 6, none⟩ = some (.int .i32 b.v2) := cell_blk G2.out 6
  have d1_7 : w3.cell? ⟨w.heap.size + 1, 7, none⟩ = some (.int .i32 b.v3) := cell_blk G2.out 7
  have d1_8 : w3.cell? ⟨w.heap.size + 1, 8, none⟩ = some (.int .i64 b.lb) := cell_blk G2.out 8
  have d1_9 : w3.cell? ⟨w.heap.size + 1, 9, none⟩ = some (.int .i64 b.cl) := cell_blk G2.out 9
  have d1_10 : w3.cell? ⟨w.heap.size + 1, 10, none⟩ = some (.int .u32 b.pv) := cell_blk G2.out 10
  have d1_11 : w3.cell? ⟨w.heap.size + 1, 11, none⟩ = some (.int .i64 b.wk) := cell_blk G2.out 11
  cases ib with
  | false =>
    go_wp2_with fail
    go_ret
    exact ⟨congrArg (fun z => Ending.returned (.bool z)) (by rw [HR.out]; simp [e_id, e_fn, e_pc]), HB3.out⟩
  | true =>
    obtain ⟨vb, hvb⟩ : ∃ vb, varsB a b = vb := ⟨_, rfl⟩
    have HVB := Lib.hid (show (a.v0 == b.v0 && a.v1 == b.v1 && a.v2 == b.v2 && a.v3 == b.v3) = vb from hvb)
    rw [hvb] at HR
    clear hvb
    cases vb with
    | false =>
      have hv := HVB.out
      go_wp2_with fail
      go_ret
      exact ⟨congrArg (fun z => Ending.returned (.bool z)) (by rw [HR.out]; simp [e_id, e_fn, e_pc]), HB3.out⟩
    | true =>
      have hv := HVB.out
      by_cases q_lb : a.lb = b.lb
      rotate_left
      · have e_lb : (a.lb == b.lb) = false := by simpa using q_lb
        go_wp2_with fail
        go_ret
        exact ⟨congrArg (fun z => Ending.returned (.bool z)) (by rw [HR.out]; simp [e_id, e_fn, e_pc, e_lb]), HB3.out⟩
      have e_lb : (a.lb == b.lb) = true := by simpa using q_lb
      by_cases q_cl : a.cl = b.cl
      rotate_left
      · have e_cl : (a.cl == b.cl) = false := by simpa using q_cl
        go_wp2_with fail
        go_ret
        exact ⟨congrArg (fun z => Ending.returned (.bool z)) (by rw [HR.out]; simp [e_id, e_fn, e_pc, e_lb, e_cl]), HB3.out⟩
      have e_cl : (a.cl == b.cl) = true := by simpa using q_cl
      by_cases q_pv : a.pv = b.pv
      rotate_left
      · have e_pv : (a.pv == b.pv) = false := by simpa using q_pv
        go_wp2_with fail
        go_ret
        exact ⟨congrArg (fun z => Ending.returned (.bool z)) (by rw [HR.out]; simp [e_id, e_fn, e_pc, e_lb, e_cl, e_pv]), HB3.out⟩
      have e_pv : (a.pv == b.pv) = true := by simpa using q_pv
      by_cases q_wk : a.wk = b.wk
      rotate_left
      · have e_wk : (a.wk == b.wk) = false := by simpa using q_wk
        go_wp2_with fail
        go_ret
        exact ⟨congrArg (fun z => Ending.returned (.bool z)) (by rw [HR.out]; simp [e_id, e_fn, e_pc, e_lb, e_cl, e_pv, e_wk]), HB3.out⟩
      have e_wk : (a.wk == b.wk) = true := by simpa using q_wk
      go_wp2_with fail
      go_ret
      exact ⟨congrArg (fun z => Ending.returned (.bool z)) (by rw [HR.out]; simp [e_id, e_fn, e_pc, e_lb, e_cl, e_pv, e_wk]), HB3.out⟩

set_option maxRecDepth 100000 in
set_option maxHeartbeats 8000000 in
theorem refSame_any (a b : TK) (sa sb : Value) (w : World) (ha : I32V w w.heap.size sa a.st) (hb : I32V w w.heap.size sb b.st) (hm : a.st.length ≤ 1000) :
    Calls Try.prog 27 #[taskV a sa, taskV b sb] w fun e w' => e = .returned (.bool (sameB a b)) ∧ Below w.heap.size w w' := by
  obtain ⟨r, hr⟩ : ∃ r, sameB a b = r := ⟨_, rfl⟩
  rw [hr]
  have HR : Hid (r = (a.id == b.id && a.fn == b.fn && a.pc == b.pc && intsB a.st b.st && varsB a b && a.lb == b.lb && a.cl == b.cl && a.pv == b.pv && a.wk == b.wk)) := Lib.hid hr.symm
  clear hr
  have HA := Lib.hid ha; have HB := Lib.hid hb
  obtain ⟨A1, c1, rfl, _, _⟩ := ha
  obtain ⟨A2, c2, rfl, _, _⟩ := hb
  obtain ⟨n1, hn1⟩ : ∃ n, a.st.length = n := ⟨_, rfl⟩
  obtain ⟨n2, hn2⟩ : ∃ n, b.st.length = n := ⟨_, rfl⟩
  have HM := Lib.hid hm
  rw [hn1] at HA ⊢; rw [hn2] at HB ⊢
  obtain ⟨ib, hib⟩ : ∃ ib, intsB a.st b.st = ib := ⟨_, rfl⟩
  have HI : Hid (∀ w', Below w.heap.size w w' → Calls Try.prog 70 #[.slice A1 n1 c1, .slice A2 n2 c2] w' fun e w'' => e = .returned (.bool ib) ∧ Below w'.heap.size w' w'') := Lib.hid fun w' h => by rw [← hib]; exact sameInts_any w' (HA.out.later h) (HB.out.later h) HM.out
  rw [hib] at HR
  have hbb := nextB (below_alloc w (.cells (taskA a (.slice A1 n1 c1)) 51)) (below_alloc _ (.cells (taskA b (.slice A2 n2 c2)) 51))
  have HB2 := Lib.hid hbb
  have h1 : ((w.alloc (.cells (taskA a (.slice A1 n1 c1)) 51)).alloc (.cells (taskA b (.slice A2 n2 c2)) 51)).heap[w.heap.size]? = some (.cells (taskA a (.slice A1 n1 c1)) 51 (0, 0)) := heapOld (heapNew rfl)
  have h2 : ((w.alloc (.cells (taskA a (.slice A1 n1 c1)) 51)).alloc (.cells (taskA b (.slice A2 n2 c2)) 51)).heap[w.heap.size + 1]? = some (.cells (taskA b (.slice A2 n2 c2)) 51 (0, 0)) := heapNew (by simp)
  obtain ⟨w2, hw2⟩ : ∃ w2, w2 = (w.alloc (.cells (taskA a (.slice A1 n1 c1)) 51)).alloc (.cells (taskA b (.slice A2 n2 c2)) 51) := ⟨_, rfl⟩
  rw [← hw2] at HB2 h1 h2
  have H1 := Lib.hid h1; have H2 := Lib.hid h2
  clear hn1 hn2 hib hm h1 h2
  unfold taskV taskA
  go_enter Try.func27, Try.ntmps27
  go_upto_region 1 with (fail)
  rw [show Code.wp Try.prog _ _ _ _ = Code.wp Try.prog _ _ _ w2 from by rw [hw2]; rfl]
  clear hw2 hbb
  have d0_0 : w2.cell? ⟨w.heap.size, 0, none⟩ = some (.int .i32 a.id) := cell_blk H1.out 0
  have d0_1 : w2.cell? ⟨w.heap.size, 1, none⟩ = some (.int .i64 a.fn) := cell_blk H1.out 1
  have d0_2 : w2.cell? ⟨w.heap.size, 2, none⟩ = some (.int .i64 a.pc) := cell_blk H1.out 2
  have d0_3 : w2.cell? ⟨w.heap.size, 3, none⟩ = some (.slice A1 n1 c1) := cell_blk H1.out 3
  have d0_4 : w2.cell? ⟨w.heap.size, 4, none⟩ = some (.int .i32 a.v0) := cell_blk H1.out 4
  have d0_5 : w2.cell? ⟨w.heap.size, 5, none⟩ = some (.int .i32 a.v1) := cell_blk H1.out 5
  have d0_6 : w2.cell? ⟨w.heap.size, 6, none⟩ = some (.int .i32 a.v2) := cell_blk H1.out 6
  have d0_7 : w2.cell? ⟨w.heap.size, 7, none⟩ = some (.int .i32 a.v3) := cell_blk H1.out 7
  have d0_8 : w2.cell? ⟨w.heap.size, 8, none⟩ = some (.int .i64 a.lb) := cell_blk H1.out 8
  have d0_9 : w2.cell? ⟨w.heap.size, 9, none⟩ = some (.int .i64 a.cl) := cell_blk H1.out 9
  have d0_10 : w2.cell? ⟨w.heap.size, 10, none⟩ = some (.int .u32 a.pv) := cell_blk H1.out 10
  have d0_11 : w2.cell? ⟨w.heap.size, 11, none⟩ = some (.int .i64 a.wk) := cell_blk H1.out 11
  have d1_0 : w2.cell? ⟨w.heap.size + 1, 0, none⟩ = some (.int .i32 b.id) := cell_blk H2.out 0
  have d1_1 : w2.cell? ⟨w.heap.size + 1, 1, none⟩ = some (.int .i64 b.fn) := cell_blk H2.out 1
  have d1_2 : w2.cell? ⟨w.heap.size + 1, 2, none⟩ = some (.int .i64 b.pc) := cell_blk H2.out 2
  have d1_3 : w2.cell? ⟨w.heap.size + 1, 3, none⟩ = some (.slice A2 n2 c2) := cell_blk H2.out 3
  have d1_4 : w2.cell? ⟨w.heap.size + 1, 4, none⟩ = some (.int .i32 b.v0) := cell_blk H2.out 4
  have d1_5 : w2.cell? ⟨w.heap.size + 1, 5, none⟩ = some (.int .i32 b.v1) := cell_blk H2.out 5
  have d1_6 : w2.cell? ⟨w.heap.size + 1, 6, none⟩ = some (.int .i32 b.v2) := cell_blk H2.out 6
  have d1_7 : w2.cell? ⟨w.heap.size + 1, 7, none⟩ = some (.int .i32 b.v3) := cell_blk H2.out 7
  have d1_8 : w2.cell? ⟨w.heap.size + 1, 8, none⟩ = some (.int .i64 b.lb) := cell_blk H2.out 8
  have d1_9 : w2.cell? ⟨w.heap.size + 1, 9, none⟩ = some (.int .i64 b.cl) := cell_blk H2.out 9
  have d1_10 : w2.cell? ⟨w.heap.size + 1, 10, none⟩ = some (.int .u32 b.pv) := cell_blk H2.out 10
  have d1_11 : w2.cell? ⟨w.heap.size + 1, 11, none⟩ = some (.int .i64 b.wk) := cell_blk H2.out 11
  by_cases q_id : a.id = b.id
  rotate_left
  · have e_id : (a.id == b.id) = false := by simpa using q_id
    go_wp2_with fail
    go_ret
    exact ⟨congrArg (fun z => Ending.returned (.bool z)) (by rw [HR.out]; simp [e_id]), HB2.out⟩
  have e_id : (a.id == b.id) = true := by simpa using q_id
  by_cases q_fn : a.fn = b.fn
  rotate_left
  · have e_fn : (a.fn == b.fn) = false := by simpa using q_fn
    go_wp2_with fail
    go_ret
    exact ⟨congrArg (fun z => Ending.returned (.bool z)) (by rw [HR.out]; simp [e_id, e_fn]), HB2.out⟩
  have e_fn : (a.fn == b.fn) = true := by simpa using q_fn
  by_cases q_pc : a.pc = b.pc
  rotate_left
  · have e_pc : (a.pc == b.pc) = false := by simpa using q_pc
    go_wp2_with fail
    go_ret
    exact ⟨congrArg (fun z => Ending.returned (.bool z)) (by rw [HR.out]; simp [e_id, e_fn, e_pc]), HB2.out⟩
  have e_pc : (a.pc == b.pc) = true := by simpa using q_pc
  go_wp2_with fail
  refine (HI.out w2 HB2.out).mono ?_
  rintro e w3 ⟨rfl, hb3⟩
  have G1 := Lib.hid (heapLater hb3 (Array.getElem?_eq_some_iff.1 H1.out).1 H1.out); have G2 := Lib.hid (heapLater hb3 (Array.getElem?_eq_some_iff.1 H2.out).1 H2.out)
  have HB3 := Lib.hid (nextB HB2.out hb3)
  clear d0_0 d1_0 d0_1 d1_1 d0_2 d1_2 d0_3 d1_3 d0_4 d1_4 d0_5 d1_5 d0_6 d1_6 d0_7 d1_7 d0_8 d1_8 d0_9 d1_9 d0_10 d1_10 d0_11 d1_11 hb3
  have d0_0 : w3.cell? ⟨w.heap.size, 0, none⟩ = some (.int .i32 a.id) := cell_blk G1.out 0
  have d0_1 : w3.cell? ⟨w.heap.size, 1, none⟩ = some (.int .i64 a.fn) := cell_blk G1.out 1
  have d0_2 : w3.cell? ⟨w.heap.size, 2, none⟩ = some (.int .i64 a.pc) := cell_blk G1.out 2
  have d0_3 : w3.cell? ⟨w.heap.size, 3, none⟩ = some (.slice A1 n1 c1) := cell_blk G1.out 3
  have d0_4 : w3.cell? ⟨w.heap.size, 4, none⟩ = some (.int .i32 a.v0) := cell_blk G1.out 4
  have d0_5 : w3.cell? ⟨w.heap.size, 5, none⟩ = some (.int .i32 a.v1) := cell_blk G1.out 5
  have d0_6 : w3.cell? ⟨w.heap.size, 6, none⟩ = some (.int .i32 a.v2) := cell_blk G1.out 6
  have d0_7 : w3.cell? ⟨w.heap.size, 7, none⟩ = some (.int .i32 a.v3) := cell_blk G1.out 7
  have d0_8 : w3.cell? ⟨w.heap.size, 8, none⟩ = some (.int .i64 a.lb) := cell_blk G1.out 8
  have d0_9 : w3.cell? ⟨w.heap.size, 9, none⟩ = some (.int .i64 a.cl) := cell_blk G1.out 9
  have d0_10 : w3.cell? ⟨w.heap.size, 10, none⟩ = some (.int .u32 a.pv) := cell_blk G1.out 10
  have d0_11 : w3.cell? ⟨w.heap.size, 11, none⟩ = some (.int .i64 a.wk) := cell_blk G1.out 11
  have d1_0 : w3.cell? ⟨w.heap.size + 1, 0, none⟩ = some (.int .i32 b.id) := cell_blk G2.out 0
  have d1_1 : w3.cell? ⟨w.heap.size + 1, 1, none⟩ = some (.int .i64 b.fn) := cell_blk G2.out 1
  have d1_2 : w3.cell? ⟨w.heap.size + 1, 2, none⟩ = some (.int .i64 b.pc) := cell_blk G2.out 2
  have d1_3 : w3.cell? ⟨w.heap.size + 1, 3, none⟩ = some (.slice A2 n2 c2) := cell_blk G2.out 3
  have d1_4 : w3.cell? ⟨w.heap.size + 1, 4, none⟩ = some (.int .i32 b.v0) := cell_blk G2.out 4
  have d1_5 : w3.cell? ⟨w.heap.size + 1, 5, none⟩ = some (.int .i32 b.v1) := cell_blk G2.out 5
  have d1_6 : w3.cell? ⟨w.heap.size + 1, 6, none⟩ = some (.int .i32 b.v2) := cell_blk G2.out 6
  have d1_7 : w3.cell? ⟨w.heap.size + 1, 7, none⟩ = some (.int .i32 b.v3) := cell_blk G2.out 7
  have d1_8 : w3.cell? ⟨w.heap.size + 1, 8, none⟩ = some (.int .i64 b.lb) := cell_blk G2.out 8
  have d1_9 : w3.cell? ⟨w.heap.size + 1, 9, none⟩ = some (.int .i64 b.cl) := cell_blk G2.out 9
  have d1_10 : w3.cell? ⟨w.heap.size + 1, 10, none⟩ = some (.int .u32 b.pv) := cell_blk G2.out 10
  have d1_11 : w3.cell? ⟨w.heap.size + 1, 11, none⟩ = some (.int .i64 b.wk) := cell_blk G2.out 11
  cases ib with
  | false =>
    go_wp2_with fail
    go_ret
    exact ⟨congrArg (fun z => Ending.returned (.bool z)) (by rw [HR.out]; simp [e_id, e_fn, e_pc]), HB3.out⟩
  | true =>
    obtain ⟨vb, hvb⟩ : ∃ vb, varsB a b = vb := ⟨_, rfl⟩
    have HVB := Lib.hid (show (a.v0 == b.v0 && a.v1 == b.v1 && a.v2 == b.v2 && a.v3 == b.v3) = vb from hvb)
    rw [hvb] at HR
    clear hvb
    cases vb with
    | false =>
      have hv := HVB.out
      go_wp2_with fail
      go_ret
      exact ⟨congrArg (fun z => Ending.returned (.bool z)) (by rw [HR.out]; simp [e_id, e_fn, e_pc]), HB3.out⟩
    | true =>
      have hv := HVB.out
      by_cases q_lb : a.lb = b.lb
      rotate_left
      · have e_lb : (a.lb == b.lb) = false := by simpa using q_lb
        go_wp2_with fail
        go_ret
        exact ⟨congrArg (fun z => Ending.returned (.bool z)) (by rw [HR.out]; simp [e_id, e_fn, e_pc, e_lb]), HB3.out⟩
      have e_lb : (a.lb == b.lb) = true := by simpa using q_lb
      by_cases q_cl : a.cl = b.cl
      rotate_left
      · have e_cl : (a.cl == b.cl) = false := by simpa using q_cl
        go_wp2_with fail
        go_ret
        exact ⟨congrArg (fun z => Ending.returned (.bool z)) (by rw [HR.out]; simp [e_id, e_fn, e_pc, e_lb, e_cl]), HB3.out⟩
      have e_cl : (a.cl == b.cl) = true := by simpa using q_cl
      by_cases q_pv : a.pv = b.pv
      rotate_left
      · have e_pv : (a.pv == b.pv) = false := by simpa using q_pv
        go_wp2_with fail
        go_ret
        exact ⟨congrArg (fun z => Ending.returned (.bool z)) (by rw [HR.out]; simp [e_id, e_fn, e_pc, e_lb, e_cl, e_pv]), HB3.out⟩
      have e_pv : (a.pv == b.pv) = true := by simpa using q_pv
      by_cases q_wk : a.wk = b.wk
      rotate_left
      · have e_wk : (a.wk == b.wk) = false := by simpa using q_wk
        go_wp2_with fail
        go_ret
        exact ⟨congrArg (fun z => Ending.returned (.bool z)) (by rw [HR.out]; simp [e_id, e_fn, e_pc, e_lb, e_cl, e_pv, e_wk]), HB3.out⟩
      have e_wk : (a.wk == b.wk) = true := by simpa using q_wk
      go_wp2_with fail
      go_ret
      exact ⟨congrArg (fun z => Ending.returned (.bool z)) (by rw [HR.out]; simp [e_id, e_fn, e_pc, e_lb, e_cl, e_pv, e_wk]), HB3.out⟩

end Go.Proofs.Ytlmbjnegajiphaa
