/- Tasks: their value, what New, Child and Drop make of them; a task and an outcome as results that lie in cells. -/
import Derived.Test.YtboelofkbhgmfaaCat10
import Derived.Laws.ResultCell
import Derived.Laws.Rows
import Derived.KernelRfl
import Derived.Deep.MidRow
import Derived.Laws.Tables
import Derived.Deep.CutRange
import Derived.Deep.CutBlock
import Derived.Deep.DeepCutAuto
namespace Go.Proofs.Ytboelofkbhgmfaa
set_option maxRecDepth 100000
open Go.RowKit

/-- A task, but for where its stack lies. -/
structure TK where
  id : Int
  fn : Int
  pc : Int
  st : List Int
  v0 : Int
  v1 : Int
  v2 : Int
  v3 : Int
  lb : Int
  cl : Int
  pv : Int
  wk : Int
def taskA (t : TK) (s : Value) : Array Value := #[.int .i32 t.id, .int .i64 t.fn, .int .i64 t.pc, s, .int .i32 t.v0, .int .i32 t.v1, .int .i32 t.v2, .int .i32 t.v3, .int .i64 t.lb, .int .i64 t.cl, .int .u32 t.pv, .int .i64 t.wk]
def taskV (t : TK) (s : Value) : Value := .agg (taskA t s)
def outA (k v c : Int) : Array Value := #[.int .i64 k, .int .i32 v, .int .i64 c]
def outV (k v c : Int) : Value := .agg (outA k v c)

theorem info_task : (Try.prog.info? 89).map (·.size) = some 12 := by kernel_rfl
theorem load_task (w : World) (g t : Nat) (u : TK) (s : Value) (fr : Nat × Nat) (hg : w.heap[g]? = some (.cells (taskA u s) t fr)) : (loadVar 89 ⟨g, 0, none⟩).run Try.prog w = .ok (taskV u s) w :=
  run_loadVar_row w g t 89 (taskA u s) fr _ hg Try.underlying89 rfl info_task
theorem ret_task {fn : Func} {R : Ending → World → Prop} {a : Act} {w : World} {p g t : Nat} {u : TK} {s : Value} {fr : Nat × Nat} (h : fn.results = #[.cell p 89]) (hd : a.defers = [])
    (hp : a.tmps.getD p undef = .pointer (some ⟨g, 0, none⟩)) (hg : w.heap[g]? = some (.cells (taskA u s) t fr)) (hR : R (.returned (taskV u s)) w) : bodyPost Try.prog fn R .ret a w := by
  refine bodyPost_ret ?_ hd hR
  exact results_cell_row h a.tmps w g t (taskA u s) fr _ hp hg Try.underlying89 rfl info_task

theorem heapNew {w : World} {o : Obj} {k : Nat} (h : k = w.heap.size) : (w.alloc o).heap[k]? = some o := by subst h; exact heap_alloc_new w o
theorem heapOld {w : World} {o x : Obj} {k : Nat} (h : w.heap[k]? = some x) : (w.alloc o).heap[k]? = some x := by
  rw [heap_alloc_old w o (Array.getElem?_eq_some_iff.1 h).1]; exact h
theorem heapLater {w w' : World} {B : Nat} {k : Nat} {x : Obj} (hb : Below B w w') (hk : k < B) (h : w.heap[k]? = some x) : w'.heap[k]? = some x := (hb.block _ hk).trans h

theorem row_at {w : World} {g ty : Nat} {old : Array Value} {fr : Nat × Nat} (h : w.heap[g]? = some (.cells old ty fr)) (cs : Array Value) : (w.setRow g cs).heap[g]? = some (.cells cs ty fr) := setRow_heap w g old cs ty fr h
theorem row_far {w : World} {g k : Nat} {cs : Array Value} (h : k ≠ g) : (w.setRow g cs).heap[k]? = w.heap[k]? := setRow_other w g k cs h
theorem row_below {w : World} {lo g : Nat} {cs : Array Value} (h : lo ≤ g) : Below lo w (w.setRow g cs) :=
  ⟨rfl, rfl, rfl, by simp [World.setRow], fun k hk => row_far (by omega)⟩
theorem cell_far {w : World} {g k i : Nat} {u : Value} (h : k ≠ g) : (w.setCell ⟨g, i, none⟩ u).heap[k]? = w.heap[k]? := by
  simp [World.setCell, Array.getElem?_modify, h.symm]
theorem cell_below {w : World} {lo g i : Nat} (hg : lo ≤ g) (u : Value) : Below lo w (w.setCell ⟨g, i, none⟩ u) :=
  ⟨rfl, rfl, rfl, by simp [World.setCell], fun k hk => cell_far (by omega)⟩
theorem Own32.keep {w w' : World} {base : Nat} {v : Value} {l : List Int} (h : Own32 w base v l) (hk : ∀ k, base ≤ k → k < w.heap.size → w'.heap[k]? = w.heap[k]?) : Own32 w' base v l := by
  refine ⟨h.1, ?_⟩
  rcases h.2 with h2 | ⟨g, cap, cur, e, hb, hg, h3⟩
  · exact .inl h2
  · exact .inr ⟨g, cap, cur, e, hb, (hk g hb (Array.getElem?_eq_some_iff.1 hg).1).trans hg, h3⟩
theorem Own32.below {w w' : World} {base : Nat} {v : Value} {l : List Int} (h : Own32 w base v l) (hb : Below w.heap.size w w') : Own32 w' base v l := h.keep fun k _ hk => hb.block k hk
theorem Own32.less {w : World} {base base' : Nat} {v : Value} {l : List Int} (h : Own32 w base v l) (hb : base' ≤ base) : Own32 w base' v l := by
  refine ⟨h.1, ?_⟩
  rcases h.2 with h2 | ⟨g, cap, cur, e, hg, h3⟩
  · exact .inl h2
  · exact .inr ⟨g, cap, cur, e, Nat.le_trans hb hg, h3⟩
theorem Own32.row {w : World} {base g : Nat} {v : Value} {l : List Int} {cs : Array Value} (h : Own32 w base v l) (hg : g < base) : Own32 (w.setRow g cs) base v l := h.keep fun k hk _ => row_far (by omega)
theorem Own32.shape {w : World} {base : Nat} {v : Value} {l : List Int} (h : Own32 w base v l) : ∃ A n c, v = .slice A n c := by
  rcases h.2 with ⟨rfl, _⟩ | ⟨g, cap, cur, rfl, _⟩
  · exact ⟨_, _, _, rfl⟩
  · exact ⟨_, _, _, rfl⟩
theorem Own32.one {w : World} {base : Nat} {v : Value} {l : List Int} (h : Own32 w base v l) : v.oneCell' = true := by
  rcases h.2 with ⟨rfl, _⟩ | ⟨g, cap, cur, rfl, _⟩ <;> rfl
theorem I32V.one {w : World} {B : Nat} {v : Value} {l : List Int} (h : I32V w B v l) : v.oneCell' = true := by
  obtain ⟨A, c, rfl, _⟩ := h; rfl
theorem task_ones {t : TK} {s : Value} (h : s.oneCell' = true) : (taskA t s).all (·.oneCell') = true := by
  simp only [taskA]
  simp [h]
  refine ⟨rfl, rfl, rfl, ?_⟩
  refine ⟨rfl, rfl, rfl, rfl, rfl, rfl, rfl, rfl⟩
theorem out_ones (k v c : Int) : (outA k v c).all (·.oneCell') = true := by simp [outA, Value.oneCell']
section
variable {ops : Array Oper} {rest : List Oper} {o : Oper} {a : Act} {w : World} {Q : Exit → Act → World → Prop}
theorem store_task (hgd : o.guard = none) (x y : Operand) (ho : o.op = .store 89 x y) (hd : o.dst = none) (g : Nat) (t : TK) (s : Value) (hx : a.eval x = .pointer (some ⟨g, 0, none⟩)) (hy : a.eval y = taskV t s)
    (ty : Nat) (z : TK) (sz : Value) (hg : w.heap[g]? = some (.cells (taskA z sz) ty (0, 0))) (h1 : s.oneCell' = true) (h : wpList Try.prog ops Q rest a (w.setRow g (taskA t s))) : wpList Try.prog ops Q (o :: rest) a w :=
  wpList_store_row hgd _ x y ho g (taskA t s) hx hy ty (taskA z sz) hg info_task rfl (task_ones h1) (by rw [hd]; exact h)
theorem load_taskAt (hgd : o.guard = none) (x : Operand) (ho : o.op = .load 89 x) (g : Nat) (t : TK) (s : Value) (hx : a.eval x = .pointer (some ⟨g, 0, none⟩))
    (ty : Nat) (fr : Nat × Nat) (hg : w.heap[g]? = some (.cells (taskA t s) ty fr)) (h : wpList Try.prog ops Q rest (a.put o.dst (taskV t s)) w) : wpList Try.prog ops Q (o :: rest) a w :=
  wpList_load_row hgd _ x ho g hx ty (taskA t s) fr _ hg Try.underlying89 rfl info_task h
end
def zT : TK := ⟨0, 0, 0, [], 0, 0, 0, 0, 0, 0, 0, 0⟩
def nilV : Value := .slice none 0 0
/-- A task without a stack; a task whose stack is new. -/
def TN (w : World) (t : TK) (e : Ending) (w' : World) : Prop := e = .returned (taskV t nilV) ∧ Below w.heap.size w w'
def TD (w : World) (t : TK) (e : Ending) (w' : World) : Prop := (∃ s, e = .returned (taskV t s) ∧ Own32 w' w.heap.size s t.st) ∧ Below w.heap.size w w'
/-- A task and an outcome, the task's stack new. -/
def TO (w : World) (t : TK) (k v c : Int) (e : Ending) (w' : World) : Prop := (∃ s, e = .returned (.tuple #[taskV t s, outV k v c]) ∧ Own32 w' w.heap.size s t.st) ∧ Below w.heap.size w w'

/-- What the start of a task holds. -/
def startA (fn arg lb cl pv wk : Int) : Array Value := #[.int .i64 fn, .int .i32 arg, .int .i64 lb, .int .i64 cl, .int .u32 pv, .int .i64 wk]
def newZ (id fn arg lb cl pv wk : Int) : TK := ⟨id, fn, 0, [], arg, 0, 0, 0, lb, cl, pv, wk⟩

def childZ (p : TK) (id f arg cl : Int) : TK := newZ id f arg p.lb cl p.pv p.wk
/-- The stack behind an instruction. -/
def keptN (n : Nat) (k : Int) : Nat := n - min k.toNat n
def dropZ (t : TK) (k : Int) (ps : List Int) : TK := { t with pc := wrap64 (t.pc + 1), st := t.st.take (keptN t.st.length k) ++ ps }
theorem kept_le (n : Nat) (k : Int) : keptN n k ≤ n := Nat.sub_le _ _
theorem I32V.take {w : World} {B : Nat} {A : Option Addr} {n c : Nat} {l : List Int} (h : I32V w B (.slice A n c) l) (k : Nat) (hk : k ≤ l.length) : I32V w B (.slice A k c) (l.take k) := by
  obtain ⟨A', c', e, hc, hl⟩ := h
  injection e with e1 e2 e3
  subst e1; subst e3
  refine ⟨A, c, by simp [Nat.min_eq_left hk], by simp; omega, fun h0 => ?_⟩
  obtain ⟨b, off, e, hb, hcc⟩ := hl (by simp [i32s] at h0 ⊢; omega)
  refine ⟨b, off, e, hb, fun j u hu => hcc j u ?_⟩
  have hj := (List.getElem?_eq_some_iff.1 hu).1
  simp only [i32s, List.length_map, List.length_take] at hj
  rw [← hu]
  simp [i32s, show j < k by omega]

theorem i32V_two {w : World} {s1 s2 : Value} {l1 l2 : List Int} (h1 : I32V w w.heap.size s1 l1) (h2 : I32V w w.heap.size s2 l2) {w' : World} (hb : Below w.heap.size w w') : I32V w' w'.heap.size s1 l1 ∧ I32V w' w'.heap.size s2 l2 := ⟨h1.later hb, h2.later hb⟩


end Go.Proofs.Ytboelofkbhgmfaa
