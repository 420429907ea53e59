/- own.Task: a task with a stack of its own. -/
import Derived.Test.YtlmbjnegajiphaaTk10
import Derived.Deep.DeepCutAuto
namespace Go.Proofs.Ytlmbjnegajiphaa
set_option maxRecDepth 100000
open Go.RowKit

set_option maxRecDepth 100000 in
set_option maxHeartbeats 4000000 in
theorem ownTask_any (t : TK) (s : Value) (w : World) (hs : I32V w w.heap.size s t.st) (hn : t.st.length ≤ 100000) : Calls Try.prog 73 #[taskV t s] w (TD w t) := by
  have HC := Lib.hid (fun w' (hb : Below w.heap.size w w') => clone_any s t.st w' (hs.later hb) hn)
  obtain ⟨As, ns, cs, e1⟩ : ∃ A n c, s = .slice A n c := by obtain ⟨A, c, e, _⟩ := hs; exact ⟨A, _, c, e⟩
  have e2 : s.oneCell' = true := hs.one
  clear hs hn
  obtain ⟨w1, hw1⟩ : ∃ w1, w1 = (w.alloc (.cells (taskA t s) 51)).alloc (.cells (taskA zT nilV) 51) := ⟨_, rfl⟩
  have B1 : Hid (Below w.heap.size w w1) := Lib.hid (by rw [hw1]; exact nextB (below_alloc _ _) (below_alloc _ _))
  have K0 : w1.heap[w.heap.size]? = some (.cells (taskA t s) 51 (0, 0)) := by rw [hw1]; exact heapOld (heap_alloc_new _ _)
  have K1 : w1.heap[w.heap.size + 1]? = some (.cells (taskA zT nilV) 51 (0, 0)) := by rw [hw1]; exact heapNew (by simp)
  have c3 : w1.cell? ⟨w.heap.size, 3, none⟩ = some s := cell_blk K0 3
  have HK0 := Lib.hid K0; have HK1 := Lib.hid K1; have HW1 := Lib.hid hw1; have HE := Lib.hid e1
  clear K0 K1 hw1 e1
  unfold taskV taskA
  go_enter Try.func73, Try.ntmps73
  go_wp2_with fail
  rw [show (w.alloc (.cells #[.int .i32 t.id, .int .i64 t.fn, .int .i64 t.pc, s, .int .i32 t.v0, .int .i32 t.v1, .int .i32 t.v2, .int .i32 t.v3, .int .i64 t.lb, .int .i64 t.cl, .int .u32 t.pv, .int .i64 t.wk] 51)).alloc (.cells #[.int .i32 0, .int .i64 0, .int .i64 0, .slice none 0 0, .int .i32 0, .int .i32 0, .int .i32 0, .int .i32 0, .int .i64 0, .int .i64 0, .int .u32 0, .int .i64 0] 51) = w1 from HW1.out.symm]
  refine (HC.out _ B1.out).mono ?_
  rintro e w2 ⟨⟨s2, rfl, ho⟩, hb⟩
  obtain ⟨A2, n2, c2, rfl⟩ := ho.shape
  have o2 := ho.one
  have z1 : w.heap.size + 1 < w1.heap.size := (Array.getElem?_eq_some_iff.1 HK1.out).1
  have K2 : w2.heap[w.heap.size]? = _ := heapLater hb (by omega) HK0.out
  have c3' : w2.cell? ⟨w.heap.size, 3, none⟩ = some s := cell_blk K2 3
  have f3 : w2.frozen? ⟨w.heap.size, 3, none⟩ = false := frozen_blk K2 3
  have HKK : Hid ((w2.setCell ⟨w.heap.size, 3, none⟩ (.slice A2 n2 c2)).heap[w.heap.size]? = some (.cells (taskA t (.slice A2 n2 c2)) 51 (0, 0))) := Lib.hid (by rw [set_blk K2 3 _]; rfl)
  have HKZ : Hid ((w2.setCell ⟨w.heap.size, 3, none⟩ (.slice A2 n2 c2)).heap[w.heap.size + 1]? = some (.cells (taskA zT nilV) 51 (0, 0))) := Lib.hid ((cell_far (by omega)).trans (heapLater hb z1 HK1.out))
  have HB2 : Hid (Below w.heap.size w (w2.setCell ⟨w.heap.size, 3, none⟩ (.slice A2 n2 c2))) := Lib.hid ((nextB B1.out hb).setCell (Nat.le_refl _) _)
  have HO2 : Hid (Own32 (w2.setCell ⟨w.heap.size, 3, none⟩ (.slice A2 n2 c2)) w1.heap.size (.slice A2 n2 c2) t.st) := Lib.hid (ho.keep fun k hk _ => cell_far (by omega))
  clear ho hb K2
  go_wp2_with (first | (refine load_taskAt rfl _ rfl _ t (.slice A2 n2 c2) rfl _ _ HKK.out ?_) | (refine store_task rfl _ _ rfl rfl _ t (.slice A2 n2 c2) rfl rfl _ _ _ HKZ.out o2 ?_) | fail)
  exact ret_task (u := t) (s := .slice A2 n2 c2) rfl rfl rfl (row_at HKZ.out _) ⟨⟨_, rfl, ((HO2.out.keep fun k hk _ => row_far (by omega)).less (by omega))⟩, HB2.out.trans (row_below (by omega))⟩

end Go.Proofs.Ytlmbjnegajiphaa
