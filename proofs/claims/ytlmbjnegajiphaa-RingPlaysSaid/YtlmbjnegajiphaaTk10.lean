/- Tasks: their value, what New, Child and Drop make of them; a task and an outcome as results that lie in cells. -/
import Derived.Test.YtlmbjnegajiphaaCat10
import Derived.Laws.ResultCell
import Derived.Laws.Rows
import Derived.KernelRfl
import Derived.Deep.MidRow
import Derived.Laws.Tables
import Derived.Deep.CutRange
import Derived.Deep.CutBlock
import Derived.Deep.DeepCutAuto
namespace Go.Proofs.Ytlmbjnegajiphaa
set_option maxRecDepth 100000
open Go.RowKit

/-- A task, but for where its stack lies. -/
structure TK where
  id : Int
  fn : Int
  pc : Int
  st : List Int
  v0 : Int
  v1 : Int
  v2 : Int
  v3 : Int
  lb : Int
  cl : Int
  pv : Int
  wk : Int
def taskA (t : TK) (s : Value) : Array Value := #[.int .i32 t.id, .int .i64 t.fn, .int .i64 t.pc, s, .int .i32 t.v0, .int .i32 t.v1, .int .i32 t.v2, .int .i32 t.v3, .int .i64 t.lb, .int .i64 t.cl, .int .u32 t.pv, .int .i64 t.wk]
def taskV (t : TK) (s : Value) : Value := .agg (taskA t s)
def outA (k v c : Int) : Array Value := #[.int .i64 k, .int .i32 v, .int .i64 c]
def outV (k v c : Int) : Value := .agg (outA k v c)

theorem info_task : (Try.prog.info? 51).map (·.size) = some 12 := by kernel_rfl
theorem info_out : (Try.prog.info? 57).map (·.size) = some 3 := by kernel_rfl
theorem load_task (w : World) (g t : Nat) (u : TK) (s : Value) (fr : Nat × Nat) (hg : w.heap[g]? = some (.cells (taskA u s) t fr)) : (loadVar 51 ⟨g, 0, none⟩).run Try.prog w = .ok (taskV u s) w :=
  run_loadVar_row w g t 51 (taskA u s) fr _ hg Try.underlying51 rfl info_task
theorem load_out (w : World) (g t : Nat) (k v c : Int) (fr : Nat × Nat) (hg : w.heap[g]? = some (.cells (outA k v c) t fr)) : (loadVar 57 ⟨g, 0, none⟩).run Try.prog w = .ok (outV k v c) w :=
  run_loadVar_row w g t 57 (outA k v c) fr _ hg Try.underlying57 rfl info_out
theorem ret_task {fn : Func} {R : Ending → World → Prop} {a : Act} {w : World} {p g t : Nat} {u : TK} {s : Value} {fr : Nat × Nat} (h : fn.results = #[.cell p 51]) (hd : a.defers = [])
    (hp : a.tmps.getD p undef = .pointer (some ⟨g, 0, none⟩)) (hg : w.heap[g]? = some (.cells (taskA u s) t fr)) (hR : R (.returned (taskV u s)) w) : bodyPost Try.prog fn R .ret a w := by
  refine bodyPost_ret ?_ hd hR
  exact results_cell_row h a.tmps w g t (taskA u s) fr _ hp hg Try.underlying51 rfl info_task
/-- A task and an outcome are returned. -/
theorem ret_task_out {fn : Func} {R : Ending → World → Prop} {a : Act} {w : World} {p q g o t t' : Nat} {u : TK} {s : Value} {k v c : Int} {fr fr' : Nat × Nat} (h : fn.results = #[.cell p 51, .cell q 57]) (hd : a.defers = [])
    (hp : a.tmps.getD p undef = .pointer (some ⟨g, 0, none⟩)) (hq : a.tmps.getD q undef = .pointer (some ⟨o, 0, none⟩)) (hg : w.heap[g]? = some (.cells (taskA u s) t fr)) (ho : w.heap[o]? = some (.cells (outA k v c) t' fr'))
    (hR : R (.returned (.tuple #[taskV u s, outV k v c])) w) : bodyPost Try.prog fn R .ret a w := by
  refine bodyPost_ret ?_ hd hR
  have hp' : a.tmps[p]?.getD undef = .pointer (some ⟨g, 0, none⟩) := by simpa using hp
  have hq' : a.tmps[q]?.getD undef = .pointer (some ⟨o, 0, none⟩) := by simpa using hq
  simp [results, h, hp', hq', asAddr, Sem.run_bind, Result.andThen, load_task w g t u s fr hg, load_out w o t' k v c fr' ho]

theorem heapNew {w : World} {o : Obj} {k : Nat} (h : k = w.heap.size) : (w.alloc o).heap[k]? = some o := by subst h; exact heap_alloc_new w o
theorem heapOld {w : World} {o x : Obj} {k : Nat} (h : w.heap[k]? = some x) : (w.alloc o).heap[k]? = some x := by
  rw [heap_alloc_old w o (Array.getElem?_eq_some_iff.1 h).1]; exact h
theorem heapLater {w w' : World} {B : Nat} {k : Nat} {x : Obj} (hb : Below B w w') (hk : k < B) (h : w.heap[k]? = some x) : w'.heap[k]? = some x := (hb.block _ hk).trans h

theorem row_at {w : World} {g ty : Nat} {old : Array Value} {fr : Nat × Nat} (h : w.heap[g]? = some (.cells old ty fr)) (cs : Array Value) : (w.setRow g cs).heap[g]? = some (.cells cs ty fr) := setRow_heap w g old cs ty fr h
theorem row_far {w : World} {g k : Nat} {cs : Array Value} (h : k ≠ g) : (w.setRow g cs).heap[k]? = w.heap[k]? := setRow_other w g k cs h
theorem row_below {w : World} {lo g : Nat} {cs : Array Value} (h : lo ≤ g) : Below lo w (w.setRow g cs) :=
  ⟨rfl, rfl, rfl, by simp [World.setRow], fun k hk => row_far (by omega)⟩
theorem cell_far {w : World} {g k i : Nat} {u : Value} (h : k ≠ g) : (w.setCell ⟨g, i, none⟩ u).heap[k]? = w.heap[k]? := by
  simp [World.setCell, Array.getElem?_modify, h.symm]
theorem cell_below {w : World} {lo g i : Nat} (hg : lo ≤ g) (u : Value) : Below lo w (w.setCell ⟨g, i, none⟩ u) :=
  ⟨rfl, rfl, rfl, by simp [World.setCell], fun k hk => cell_far (by omega)⟩
theorem Own32.keep {w w' : World} {base : Nat} {v : Value} {l : List Int} (h : Own32 w base v l) (hk : ∀ k, base ≤ k → k < w.heap.size → w'.heap[k]? = w.heap[k]?) : Own32 w' base v l := by
  refine ⟨h.1, ?_⟩
  rcases h.2 with h2 | ⟨g, cap, cur, e, hb, hg, h3⟩
  · exact .inl h2
  · exact .inr ⟨g, cap, cur, e, hb, (hk g hb (Array.getElem?_eq_some_iff.1 hg).1).trans hg, h3⟩
theorem Own32.below {w w' : World} {base : Nat} {v : Value} {l : List Int} (h : Own32 w base v l) (hb : Below w.heap.size w w') : Own32 w' base v l := h.keep fun k _ hk => hb.block k hk
theorem Own32.less {w : World} {base base' : Nat} {v : Value} {l : List Int} (h : Own32 w base v l) (hb : base' ≤ base) : Own32 w base' v l := by
  refine ⟨h.1, ?_⟩
  rcases h.2 with h2 | ⟨g, cap, cur, e, hg, h3⟩
  · exact .inl h2
  · exact .inr ⟨g, cap, cur, e, Nat.le_trans hb hg, h3⟩
theorem Own32.row {w : World} {base g : Nat} {v : Value} {l : List Int} {cs : Array Value} (h : Own32 w base v l) (hg : g < base) : Own32 (w.setRow g cs) base v l := h.keep fun k hk _ => row_far (by omega)
theorem Own32.shape {w : World} {base : Nat} {v : Value} {l : List Int} (h : Own32 w base v l) : ∃ A n c, v = .slice A n c := by
  rcases h.2 with ⟨rfl, _⟩ | ⟨g, cap, cur, rfl, _⟩
  · exact ⟨_, _, _, rfl⟩
  · exact ⟨_, _, _, rfl⟩
theorem Own32.one {w : World} {base : Nat} {v : Value} {l : List Int} (h : Own32 w base v l) : v.oneCell' = true := by
  rcases h.2 with ⟨rfl, _⟩ | ⟨g, cap, cur, rfl, _⟩ <;> rfl
theorem I32V.one {w : World} {B : Nat} {v : Value} {l : List Int} (h : I32V w B v l) : v.oneCell' = true := by
  obtain ⟨A, c, rfl, _⟩ := h; rfl
theorem task_ones {t : TK} {s : Value} (h : s.oneCell' = true) : (taskA t s).all (·.oneCell') = true := by
  simp only [taskA]
  simp [h]
  refine ⟨rfl, rfl, rfl, ?_⟩
  refine ⟨rfl, rfl, rfl, rfl, rfl, rfl, rfl, rfl⟩
theorem out_ones (k v c : Int) : (outA k v c).all (·.oneCell') = true := by simp [outA, Value.oneCell']
section
variable {ops : Array Oper} {rest : List Oper} {o : Oper} {a : Act} {w : World} {Q : Exit → Act → World → Prop}
theorem store_task (hgd : o.guard = none) (x y : Operand) (ho : o.op = .store 51 x y) (hd : o.dst = none) (g : Nat) (t : TK) (s : Value) (hx : a.eval x = .pointer (some ⟨g, 0, none⟩)) (hy : a.eval y = taskV t s)
    (ty : Nat) (z : TK) (sz : Value) (hg : w.heap[g]? = some (.cells (taskA z sz) ty (0, 0))) (h1 : s.oneCell' = true) (h : wpList Try.prog ops Q rest a (w.setRow g (taskA t s))) : wpList Try.prog ops Q (o :: rest) a w :=
  wpList_store_row hgd _ x y ho g (taskA t s) hx hy ty (taskA z sz) hg info_task rfl (task_ones h1) (by rw [hd]; exact h)
theorem store_out (hgd : o.guard = none) (x y : Operand) (ho : o.op = .store 57 x y) (hd : o.dst = none) (g : Nat) (k v c : Int) (hx : a.eval x = .pointer (some ⟨g, 0, none⟩)) (hy : a.eval y = outV k v c)
    (ty : Nat) (k0 v0 c0 : Int) (hg : w.heap[g]? = some (.cells (outA k0 v0 c0) ty (0, 0))) (h : wpList Try.prog ops Q rest a (w.setRow g (outA k v c))) : wpList Try.prog ops Q (o :: rest) a w :=
  wpList_store_row hgd _ x y ho g (outA k v c) hx hy ty (outA k0 v0 c0) hg info_out rfl (out_ones k v c) (by rw [hd]; exact h)
theorem load_taskAt (hgd : o.guard = none) (x : Operand) (ho : o.op = .load 51 x) (g : Nat) (t : TK) (s : Value) (hx : a.eval x = .pointer (some ⟨g, 0, none⟩))
    (ty : Nat) (fr : Nat × Nat) (hg : w.heap[g]? = some (.cells (taskA t s) ty fr)) (h : wpList Try.prog ops Q rest (a.put o.dst (taskV t s)) w) : wpList Try.prog ops Q (o :: rest) a w :=
  wpList_load_row hgd _ x ho g hx ty (taskA t s) fr _ hg Try.underlying51 rfl info_task h
theorem load_outAt (hgd : o.guard = none) (x : Operand) (ho : o.op = .load 57 x) (g : Nat) (k v c : Int) (hx : a.eval x = .pointer (some ⟨g, 0, none⟩))
    (ty : Nat) (fr : Nat × Nat) (hg : w.heap[g]? = some (.cells (outA k v c) ty fr)) (h : wpList Try.prog ops Q rest (a.put o.dst (outV k v c)) w) : wpList Try.prog ops Q (o :: rest) a w :=
  wpList_load_row hgd _ x ho g hx ty (outA k v c) fr _ hg Try.underlying57 rfl info_out h
end
def zT : TK := ⟨0, 0, 0, [], 0, 0, 0, 0, 0, 0, 0, 0⟩
def nilV : Value := .slice none 0 0
/-- A task without a stack; a task whose stack is new. -/
def TN (w : World) (t : TK) (e : Ending) (w' : World) : Prop := e = .returned (taskV t nilV) ∧ Below w.heap.size w w'
def TD (w : World) (t : TK) (e : Ending) (w' : World) : Prop := (∃ s, e = .returned (taskV t s) ∧ Own32 w' w.heap.size s t.st) ∧ Below w.heap.size w w'
/-- A task and an outcome, the task's stack new. -/
def TO (w : World) (t : TK) (k v c : Int) (e : Ending) (w' : World) : Prop := (∃ s, e = .returned (.tuple #[taskV t s, outV k v c]) ∧ Own32 w' w.heap.size s t.st) ∧ Below w.heap.size w w'
/-- They are stored into the results' cells and returned. -/
theorem ret_TO {fn : Func} {a : Act} {w W : World} {p q g o base ty ty' : Nat} {t z : TK} {s sz : Value} {k v c k0 v0 c0 : Int} (h : fn.results = #[.cell p 51, .cell q 57]) (hd : a.defers = [])
    (hp : a.tmps.getD p undef = .pointer (some ⟨g, 0, none⟩)) (hq : a.tmps.getD q undef = .pointer (some ⟨o, 0, none⟩)) (hg : W.heap[g]? = some (.cells (taskA z sz) ty (0, 0))) (ho : W.heap[o]? = some (.cells (outA k0 v0 c0) ty' (0, 0)))
    (hne : g ≠ o) (l1 : w.heap.size ≤ g) (l2 : w.heap.size ≤ o) (u1 : g < base) (u2 : o < base) (hO : Own32 W base s t.st) (hB : Below w.heap.size w W) :
    bodyPost Try.prog fn (TO w t k v c) .ret a ((W.setRow g (taskA t s)).setRow o (outA k v c)) := by
  have ho' : (W.setRow g (taskA t s)).heap[o]? = some (.cells (outA k0 v0 c0) ty' (0, 0)) := (row_far hne.symm).trans ho
  refine ret_task_out h hd hp hq ((row_far hne).trans (row_at hg _)) (row_at ho' _) ⟨⟨s, rfl, ?_⟩, (hB.trans (row_below l1)).trans (row_below l2)⟩
  exact ((hO.row u1).row u2).less (by omega)

/-- What the start of a task holds. -/
def startA (fn arg lb cl pv wk : Int) : Array Value := #[.int .i64 fn, .int .i32 arg, .int .i64 lb, .int .i64 cl, .int .u32 pv, .int .i64 wk]
def newZ (id fn arg lb cl pv wk : Int) : TK := ⟨id, fn, 0, [], arg, 0, 0, 0, lb, cl, pv, wk⟩

set_option maxRecDepth 100000 in
set_option maxHeartbeats 4000000 in
theorem new_any (id fn arg lb cl pv wk : Int) (w : World) : Calls Try.prog 33 #[.int .i32 id, .agg (startA fn arg lb cl pv wk)] w (TN w (newZ id fn arg lb cl pv wk)) := by
  unfold startA
  go_enter Try.func33, Try.ntmps33
  go_wp2_with fail
  exact ret_task (u := newZ id fn arg lb cl pv wk) (s := nilV) rfl rfl rfl (heapNew (by simp)) ⟨rfl, nextB (below_alloc _ _) (below_alloc _ _)⟩
set_option maxRecDepth 100000 in
set_option maxHeartbeats 4000000 in
theorem refNew_any (id fn arg lb cl pv wk : Int) (w : World) : Calls Try.prog 34 #[.int .i32 id, .agg (startA fn arg lb cl pv wk)] w (TN w (newZ id fn arg lb cl pv wk)) := by
  unfold startA
  go_enter Try.func34, Try.ntmps34
  go_wp2_with fail
  exact ret_task (u := newZ id fn arg lb cl pv wk) (s := nilV) rfl rfl rfl (heapOld (heapNew (by simp))) ⟨rfl, nextB (nextB (below_alloc _ _) (below_alloc _ _)) (below_alloc _ _)⟩
def childZ (p : TK) (id f arg cl : Int) : TK := newZ id f arg p.lb cl p.pv p.wk
set_option maxRecDepth 100000 in
set_option maxHeartbeats 4000000 in
theorem child_any (p : TK) (s : Value) (id f arg cl : Int) (w : World) : Calls Try.prog 31 #[taskV p s, .int .i32 id, .int .i64 f, .int .i32 arg, .int .i64 cl] w (TN w (childZ p id f arg cl)) := by
  obtain ⟨c, hc⟩ : ∃ c, childZ p id f arg cl = c := ⟨_, rfl⟩
  rw [hc]
  unfold taskV taskA
  go_enter Try.func31, Try.ntmps31
  go_wp2_with fail
  refine (new_any _ _ _ _ _ _ _ _).mono ?_
  rintro e w1 ⟨rfl, hb⟩
  have HZ : Hid (w1.heap[w.heap.size + 1]? = some (.cells (taskA zT nilV) 51 (0, 0))) := Lib.hid (heapLater hb (by simp) (heapNew (by simp)))
  have B1 := Lib.hid (nextB (nextB (below_alloc _ _) (below_alloc _ _)) hb)
  clear hb
  rw [show newZ id f arg p.lb cl p.pv p.wk = c from hc]
  clear hc
  go_wp2_with (first | (refine store_task rfl _ _ rfl rfl _ c nilV rfl rfl _ _ _ HZ.out rfl ?_) | fail)
  exact ret_task (u := c) (s := nilV) rfl rfl rfl (row_at HZ.out _) ⟨rfl, B1.out.trans (row_below (by omega))⟩
set_option maxRecDepth 100000 in
set_option maxHeartbeats 4000000 in
theorem refChild_any (p : TK) (s : Value) (id f arg cl : Int) (w : World) : Calls Try.prog 32 #[taskV p s, .int .i32 id, .int .i64 f, .int .i32 arg, .int .i64 cl] w (TN w (childZ p id f arg cl)) := by
  obtain ⟨c, hc⟩ : ∃ c, childZ p id f arg cl = c := ⟨_, rfl⟩
  rw [hc]
  unfold taskV taskA
  go_enter Try.func32, Try.ntmps32
  go_wp2_with fail
  refine (refNew_any _ _ _ _ _ _ _ _).mono ?_
  rintro e w1 ⟨rfl, hb⟩
  have HZ : Hid (w1.heap[w.heap.size + 1]? = some (.cells (taskA zT nilV) 51 (0, 0))) := Lib.hid (heapLater hb (by simp) (heapNew (by simp)))
  have B1 := Lib.hid (nextB (nextB (below_alloc _ _) (below_alloc _ _)) hb)
  clear hb
  rw [show newZ id f arg p.lb cl p.pv p.wk = c from hc]
  clear hc
  go_wp2_with (first | (refine store_task rfl _ _ rfl rfl _ c nilV rfl rfl _ _ _ HZ.out rfl ?_) | fail)
  exact ret_task (u := c) (s := nilV) rfl rfl rfl (row_at HZ.out _) ⟨rfl, B1.out.trans (row_below (by omega))⟩
/-- The stack behind an instruction. -/
def keptN (n : Nat) (k : Int) : Nat := n - min k.toNat n
def dropZ (t : TK) (k : Int) (ps : List Int) : TK := { t with pc := wrap64 (t.pc + 1), st := t.st.take (keptN t.st.length k) ++ ps }
theorem kept_le (n : Nat) (k : Int) : keptN n k ≤ n := Nat.sub_le _ _
theorem I32V.take {w : World} {B : Nat} {A : Option Addr} {n c : Nat} {l : List Int} (h : I32V w B (.slice A n c) l) (k : Nat) (hk : k ≤ l.length) : I32V w B (.slice A k c) (l.take k) := by
  obtain ⟨A', c', e, hc, hl⟩ := h
  injection e with e1 e2 e3
  subst e1; subst e3
  refine ⟨A, c, by simp [Nat.min_eq_left hk], by simp; omega, fun h0 => ?_⟩
  obtain ⟨b, off, e, hb, hcc⟩ := hl (by simp [i32s] at h0 ⊢; omega)
  refine ⟨b, off, e, hb, fun j u hu => hcc j u ?_⟩
  have hj := (List.getElem?_eq_some_iff.1 hu).1
  simp only [i32s, List.length_map, List.length_take] at hj
  rw [← hu]
  simp [i32s, show j < k by omega]

theorem i32V_two {w : World} {s1 s2 : Value} {l1 l2 : List Int} (h1 : I32V w w.heap.size s1 l1) (h2 : I32V w w.heap.size s2 l2) {w' : World} (hb : Below w.heap.size w w') : I32V w' w'.heap.size s1 l1 ∧ I32V w' w'.heap.size s2 l2 := ⟨h1.later hb, h2.later hb⟩

set_option maxRecDepth 100000 in
set_option maxHeartbeats 8000000 in
theorem drop_any (t : TK) (s : Value) (k : Int) (s2 : Value) (ps : List Int) (w : World) (hs : I32V w w.heap.size s t.st) (hp : I32V w w.heap.size s2 ps) (hn : t.st.length ≤ 100000) (hm : ps.length ≤ 100000) :
    Calls Try.prog 28 #[taskV t s, .int .i64 k, s2] w (TD w (dropZ t k ps)) := by
  have HS := Lib.hid hs; have HP := Lib.hid hp
  obtain ⟨A, c, rfl, hc, _⟩ := hs
  obtain ⟨A2, c2, rfl, _, _⟩ := hp
  obtain ⟨n, hnn⟩ : ∃ n, t.st.length = n := ⟨_, rfl⟩
  have HN := Lib.hid hnn
  obtain ⟨m, hmm⟩ : ∃ m, ps.length = m := ⟨_, rfl⟩
  have HM := Lib.hid hmm
  obtain ⟨kt, hkt⟩ : ∃ m, keptN n k = m := ⟨_, rfl⟩
  have hkn : kt ≤ n := by rw [← hkt]; exact kept_le n k
  have HK : Hid (∀ x : Int, x = (n : Int) - min (max k 0) (n : Int) → x = (kt : Int)) := Lib.hid (by intro x hx; rw [hx, ← hkt]; unfold keptN; omega)
  rw [hnn] at hc HS hn ⊢
  rw [hmm] at HP hm ⊢
  obtain ⟨z, hz⟩ : ∃ z, dropZ t k ps = z := ⟨_, rfl⟩
  have hzst : z.st = t.st.take kt ++ ps := by rw [← hz, ← hkt, ← hnn]; rfl
  have hze : z = { t with pc := wrap64 (t.pc + 1), st := z.st } := by rw [← hz]; rfl
  have HZ := Lib.hid hzst; have HZE := Lib.hid hze
  rw [hz]
  clear hnn hkt hmm hz hzst hze
  have hkc : (kt : Int) ≤ (c : Int) := by omega
  unfold taskV taskA
  go_enter Try.func28, Try.ntmps28
  go_upto_region 1 with (fail)
  go_cut [7] from 8 to 17 (fun v wx => v = .int .i64 kt ∧ wx = (w.alloc (.cells #[.int .i32 t.id, .int .i64 t.fn, .int .i64 t.pc, .slice A n c, .int .i32 t.v0, .int .i32 t.v1, .int .i32 t.v2, .int .i32 t.v3, .int .i64 t.lb, .int .i64 t.cl, .int .u32 t.pv, .int .i64 t.wk] 51)).alloc (.cells #[.int .i32 0, .int .i64 0, .int .i64 0, .slice none 0 0, .int .i32 0, .int .i32 0, .int .i32 0, .int .i32 0, .int .i64 0, .int .i64 0, .int .u32 0, .int .i64 0] 51))
  case first =>
    go_wp2_with fail
    all_goals go_meet
    all_goals refine ⟨congrArg (Value.int .i64) (HK.out _ ?_), rfl⟩
    all_goals (rename_i h1; split at h1 <;> omega)
  case rest =>
    obtain ⟨rfl, hwc⟩ := hcut
    subst hwc
    go_wp2_with fail
    have B2 := Lib.hid (nextB (below_alloc w (.cells #[.int .i32 t.id, .int .i64 t.fn, .int .i64 t.pc, .slice A n c, .int .i32 t.v0, .int .i32 t.v1, .int .i32 t.v2, .int .i32 t.v3, .int .i64 t.lb, .int .i64 t.cl, .int .u32 t.pv, .int .i64 t.wk] 51)) (below_alloc _ (.cells #[.int .i32 0, .int .i64 0, .int .i64 0, .slice none 0 0, .int .i32 0, .int .i32 0, .int .i32 0, .int .i32 0, .int .i64 0, .int .i64 0, .int .u32 0, .int .i64 0] 51)))
    have B3 := Lib.hid (nextB B2.out (below_alloc _ (.cells #[.slice A kt c, .slice A2 m c2] 47)))
    refine (concat_any _ _ _ (t.st.take kt) ps _ (by simp) (cell_blk (heapNew (by simp)) 0) (cell_blk (heapNew (by simp)) 1) ((HS.out.take kt (by rw [HN.out]; exact hkn)).later B3.out) (HP.out.later B3.out) (by simp; omega) (by rw [HM.out]; exact hm)).mono ?_
    rintro e w3 ⟨⟨v, rfl, ho⟩, hb⟩
    obtain ⟨A3, m3, k3, rfl⟩ := ho.shape
    have hz : w3.heap[w.heap.size]? = some (.cells (taskA t (.slice A n c)) 51 (0, 0)) := heapLater hb (by simp; omega) (heapOld (heapOld (heapNew (by simp))))
    have hy : w3.heap[w.heap.size + 1]? = some (.cells (taskA zT nilV) 51 (0, 0)) := heapLater hb (by simp) (heapOld (heapNew (by simp)))
    have B4 : Hid (Below w.heap.size w w3) := Lib.hid (nextB B3.out hb)
    have c3 : w3.cell? ⟨w.heap.size, 3, none⟩ = some (.slice A n c) := cell_blk hz 3
    have f3 : w3.frozen? ⟨w.heap.size, 3, none⟩ = false := frozen_blk hz 3
    have HY := Lib.hid hy
    have HZ3 := Lib.hid hz
    have HO : Hid (Own32 w3 (w.heap.size + 3) (.slice A3 m3 k3) z.st) := Lib.hid (by rw [HZ.out]; simpa using ho)
    clear hz hy ho hb B3 B2 HS HP HK
    go_upto_region 3 with (fail)
    obtain ⟨w4, hw4⟩ : ∃ w4, w3.setCell ⟨w.heap.size, 3, none⟩ (.slice A3 m3 k3) = w4 := ⟨_, rfl⟩
    rw [hw4]
    have hz4 : w4.heap[w.heap.size]? = some (.cells (taskA t (.slice A3 m3 k3)) 51 (0, 0)) := by rw [← hw4]; exact set_blk HZ3.out 3 _
    have hy4 : w4.heap[w.heap.size + 1]? = some (.cells (taskA zT nilV) 51 (0, 0)) := by rw [← hw4, cell_far (by omega)]; exact HY.out
    have ho4 : Own32 w4 (w.heap.size + 3) (.slice A3 m3 k3) z.st := by rw [← hw4]; exact HO.out.keep fun k hk _ => cell_far (by omega)
    have hb4 : Below w.heap.size w w4 := by rw [← hw4]; exact B4.out.trans (cell_below (Nat.le_refl _) _)
    have c2 : w4.cell? ⟨w.heap.size, 2, none⟩ = some (.int .i64 t.pc) := cell_blk hz4 2
    have f2 : w4.frozen? ⟨w.heap.size, 2, none⟩ = false := frozen_blk hz4 2
    have Z4 := Lib.hid hz4; have Y4 := Lib.hid hy4; have O4 := Lib.hid ho4; have B5 := Lib.hid hb4
    clear hw4 hz4 hy4 ho4 hb4 HZ3 HY HO B4 c3 f3
    go_upto_region 4 with (fail)
    obtain ⟨w5, hw5⟩ : ∃ w5, w4.setCell ⟨w.heap.size, 2, none⟩ (.int .i64 (wrap64 (t.pc + 1))) = w5 := ⟨_, rfl⟩
    rw [hw5]
    have hz5 : w5.heap[w.heap.size]? = some (.cells (taskA z (.slice A3 m3 k3)) 51 (0, 0)) := by rw [← hw5, HZE.out]; exact set_blk Z4.out 2 _
    have hy5 : w5.heap[w.heap.size + 1]? = some (.cells (taskA zT nilV) 51 (0, 0)) := by rw [← hw5, cell_far (by omega)]; exact Y4.out
    have ho5 : Own32 w5 (w.heap.size + 3) (.slice A3 m3 k3) z.st := by rw [← hw5]; exact O4.out.keep fun k hk _ => cell_far (by omega)
    have hb5 : Below w.heap.size w w5 := by rw [← hw5]; exact B5.out.trans (cell_below (Nat.le_refl _) _)
    have Z5 := Lib.hid hz5; have Y5 := Lib.hid hy5; have O5 := Lib.hid ho5; have B6 := Lib.hid hb5
    clear hw5 hz5 hy5 ho5 hb5 Z4 Y4 O4 B5 c2 f2
    go_wp2_with (first | (refine load_taskAt rfl _ rfl _ _ _ rfl _ _ Z5.out ?_) | (refine store_task rfl _ _ rfl rfl _ z (.slice A3 m3 k3) rfl rfl _ _ _ Y5.out O5.out.one ?_) | fail)
    exact ret_task (u := z) (s := .slice A3 m3 k3) rfl rfl rfl (row_at Y5.out _) ⟨⟨_, rfl, (O5.out.row (by omega)).less (by omega)⟩, B6.out.trans (row_below (by omega))⟩

end Go.Proofs.Ytlmbjnegajiphaa
