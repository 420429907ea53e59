/- The methods of a task's state that say what it holds, leave it as it is, or take it on. (Drawn: gen/s10.py.) -/
import Derived.Test.YtlmbjnegajiphaaTk10
import Derived.Test.YtlmbjnegajiphaaWhich
import Derived.Test.YtlmbjnegajiphaaRegion
import Derived.Deep.QuietTactic
import Derived.BigQuiet
namespace Go.Proofs.Ytlmbjnegajiphaa
set_option maxRecDepth 100000
open Go.RowKit

/-- A task and an instruction. -/
def stateA (t : TK) (s : Value) (op x : Int) : Array Value := #[.int .i32 t.id, .int .i64 t.fn, .int .i64 t.pc, s, .int .i32 t.v0, .int .i32 t.v1, .int .i32 t.v2, .int .i32 t.v3, .int .i64 t.lb, .int .i64 t.cl, .int .u32 t.pv, .int .i64 t.wk, .int .i64 op, .int .i32 x]
def stV (t : TK) (s : Value) (op x : Int) : Value := .agg (stateA t s op x)
theorem info_state : (Try.prog.info? 106).map (·.size) = some 14 := by kernel_rfl
theorem state_task {w : World} {b ty : Nat} {t : TK} {s : Value} {op x : Int} {fr : Nat × Nat} (h : w.heap[b]? = some (.cells (stateA t s op x) ty fr)) : w.rangeAt b 0 (taskA t s).toList := by
  have := World.rangeAt_of_block h 0 12
  exact this

/-- The state's box. -/
structure St0 (w : World) (t : TK) (s : Value) (op x : Int) (w' : World) : Prop where
  bx : w'.heap[w.heap.size]? = some (.cells (stateA t s op x) 106 (0, 0))
  lie : I32V w' w.heap.size s t.st
  bl : Below w.heap.size w w'
  sz : w.heap.size + 1 ≤ w'.heap.size
theorem I32V.row {w : World} {B g : Nat} {v : Value} {l : List Int} {cs : Array Value} (h : I32V w B v l) (hg : B ≤ g) : I32V (w.setRow g cs) B v l := h.below (row_below hg)
section
variable {w w' w'' : World} {t : TK} {s : Value} {op x : Int}
theorem St0.st (h : St0 w t s op x w') : I32V w' w'.heap.size s t.st := h.lie.more h.bl.size
theorem St0.step (h : St0 w t s op x w') (hb : Below w'.heap.size w' w'') : St0 w t s op x w'' :=
  have := h.sz
  ⟨heapLater hb (by omega) h.bx, h.lie.below (hb.mono (by omega)), nextB h.bl hb, Nat.le_trans h.sz hb.size⟩
theorem St0.row (h : St0 w t s op x w') {g : Nat} (hg : w.heap.size < g) (cs : Array Value) : St0 w t s op x (w'.setRow g cs) :=
  ⟨(row_far (by omega)).trans h.bx, h.lie.row (by omega), h.bl.trans (row_below (by omega)), by have := h.sz; simpa [World.setRow] using this⟩
theorem St0.cell (h : St0 w t s op x w') (k : Nat) : w'.cell? ⟨w.heap.size, k, none⟩ = (stateA t s op x)[k]? := cell_blk h.bx k
theorem St0.c3 (h : St0 w t s op x w') : w'.cell? ⟨w.heap.size, 3, none⟩ = some s := h.cell 3
theorem St0.c8 (h : St0 w t s op x w') : w'.cell? ⟨w.heap.size, 8, none⟩ = some (.int .i64 t.lb) := h.cell 8
theorem St0.c12 (h : St0 w t s op x w') : w'.cell? ⟨w.heap.size, 12, none⟩ = some (.int .i64 op) := h.cell 12
theorem St0.c13 (h : St0 w t s op x w') : w'.cell? ⟨w.heap.size, 13, none⟩ = some (.int .i32 x) := h.cell 13
end
/-- The box and the two results' cells, still empty. -/
structure StB (w : World) (t : TK) (s : Value) (op x : Int) (w' : World) : Prop extends St0 w t s op x w' where
  z1 : w'.heap[w.heap.size + 1]? = some (.cells (taskA zT nilV) 51 (0, 0))
  z2 : w'.heap[w.heap.size + 2]? = some (.cells (outA 0 0 0) 57 (0, 0))
  sz3 : w.heap.size + 3 ≤ w'.heap.size
section
variable {w w' w'' : World} {t : TK} {s : Value} {op x : Int}
theorem StB.step (h : StB w t s op x w') (hb : Below w'.heap.size w' w'') : StB w t s op x w'' :=
  have := h.sz3
  ⟨h.toSt0.step hb, heapLater hb (by omega) h.z1, heapLater hb (by omega) h.z2, Nat.le_trans h.sz3 hb.size⟩
theorem StB.start (hs : I32V w w.heap.size s t.st) : StB w t s op x (((w.alloc (.cells (stateA t s op x) 106)).alloc (.cells (taskA zT nilV) 51)).alloc (.cells (outA 0 0 0) 57)) := by
  have hb := nextB (nextB (below_alloc w (.cells (stateA t s op x) 106)) (below_alloc _ (.cells (taskA zT nilV) 51))) (below_alloc _ (.cells (outA 0 0 0) 57))
  exact ⟨⟨heapOld (heapOld (heapNew rfl)), hs.below hb, hb, by simp⟩, heapOld (heapNew (by simp)), heapNew (by simp), by simp⟩
end
section
variable {ops : Array Oper} {rest : List Oper} {o : Oper} {a : Act} {w : World} {Q : Exit → Act → World → Prop} {K : Act → World → Prop}
theorem load_state (hgd : o.guard = none) (y : Operand) (ho : o.op = .load 106 y) (g : Nat) (t : TK) (s : Value) (op x : Int) (hx : a.eval y = .pointer (some ⟨g, 0, none⟩))
    (ty : Nat) (fr : Nat × Nat) (hg : w.heap[g]? = some (.cells (stateA t s op x) ty fr)) (h : wpList Try.prog ops Q rest (a.put o.dst (stV t s op x)) w) : wpList Try.prog ops Q (o :: rest) a w :=
  wpList_load_row hgd _ y ho g hx ty (stateA t s op x) fr _ hg Try.underlying106 rfl info_state h
theorem load_stTask (hgd : o.guard = none) (y : Operand) (ho : o.op = .load 51 y) (g : Nat) (t : TK) (s : Value) (op x : Int) (hx : a.eval y = .pointer (some ⟨g, 0, none⟩))
    (ty : Nat) (fr : Nat × Nat) (hg : w.heap[g]? = some (.cells (stateA t s op x) ty fr)) (h : wpList Try.prog ops Q rest (a.put o.dst (taskV t s)) w) : wpList Try.prog ops Q (o :: rest) a w :=
  wpList_load_mid hgd _ y ho g 0 hx (taskA t s).toList _ (state_task hg) Try.underlying51 rfl info_task h
theorem wpState (y : Operand) (ho : o.op = .load 106 y) (g : Nat) (t : TK) (s : Value) (op x : Int) (hx : a.eval y = .pointer (some ⟨g, 0, none⟩))
    (ty : Nat) (fr : Nat × Nat) (hg : w.heap[g]? = some (.cells (stateA t s op x) ty fr)) (h : K (a.put o.dst (stV t s op x)) w) : o.wp Try.prog a w K Q :=
  wp_load_row _ y ho g hx ty (stateA t s op x) fr _ hg Try.underlying106 rfl info_state h
theorem wpStTask (y : Operand) (ho : o.op = .load 51 y) (g : Nat) (t : TK) (s : Value) (op x : Int) (hx : a.eval y = .pointer (some ⟨g, 0, none⟩))
    (ty : Nat) (fr : Nat × Nat) (hg : w.heap[g]? = some (.cells (stateA t s op x) ty fr)) (h : K (a.put o.dst (taskV t s)) w) : o.wp Try.prog a w K Q :=
  wp_load_mid _ y ho g 0 hx (taskA t s).toList _ (state_task hg) Try.underlying51 rfl info_task h
theorem wpTask (y : Operand) (ho : o.op = .load 51 y) (g : Nat) (t : TK) (s : Value) (hx : a.eval y = .pointer (some ⟨g, 0, none⟩))
    (ty : Nat) (fr : Nat × Nat) (hg : w.heap[g]? = some (.cells (taskA t s) ty fr)) (h : K (a.put o.dst (taskV t s)) w) : o.wp Try.prog a w K Q :=
  wp_load_row _ y ho g hx ty (taskA t s) fr _ hg Try.underlying51 rfl info_task h
theorem wpOut (y : Operand) (ho : o.op = .load 57 y) (g : Nat) (k v c : Int) (hx : a.eval y = .pointer (some ⟨g, 0, none⟩))
    (ty : Nat) (fr : Nat × Nat) (hg : w.heap[g]? = some (.cells (outA k v c) ty fr)) (h : K (a.put o.dst (outV k v c)) w) : o.wp Try.prog a w K Q :=
  wp_load_row _ y ho g hx ty (outA k v c) fr _ hg Try.underlying57 rfl info_out h
theorem wpPutTask (x y : Operand) (ho : o.op = .store 51 x y) (g : Nat) (t : TK) (s : Value) (hx : a.eval x = .pointer (some ⟨g, 0, none⟩)) (hy : a.eval y = taskV t s)
    (ty : Nat) (z : TK) (sz : Value) (hg : w.heap[g]? = some (.cells (taskA z sz) ty (0, 0))) (h1 : s.oneCell' = true) (h : K (a.put o.dst undef) (w.setRow g (taskA t s))) : o.wp Try.prog a w K Q :=
  wp_store_row _ x y ho g (taskA t s) hx hy ty (taskA z sz) hg info_task rfl (task_ones h1) h
theorem wpPutOut (x y : Operand) (ho : o.op = .store 57 x y) (g : Nat) (k v c : Int) (hx : a.eval x = .pointer (some ⟨g, 0, none⟩)) (hy : a.eval y = outV k v c)
    (ty : Nat) (k0 v0 c0 : Int) (hg : w.heap[g]? = some (.cells (outA k0 v0 c0) ty (0, 0))) (h : K (a.put o.dst undef) (w.setRow g (outA k v c))) : o.wp Try.prog a w K Q :=
  wp_store_row _ x y ho g (outA k v c) hx hy ty (outA k0 v0 c0) hg info_out rfl (out_ones k v c) h
end

/-- The two results are stored, one behind the other. -/
def SR (w : World) (t : TK) (s : Value) (op x : Int) (z : TK) (k v c : Int) : Nat → World → Prop
  | 0, w' => St0 w t s op x w' ∧ w'.heap[w.heap.size + 1]? = some (.cells (taskA zT nilV) 51 (0, 0)) ∧ w'.heap[w.heap.size + 2]? = some (.cells (outA 0 0 0) 57 (0, 0))
  | 1, w' => St0 w t s op x w' ∧ (∃ s', w'.heap[w.heap.size + 1]? = some (.cells (taskA z s') 51 (0, 0)) ∧ Own32 w' (w.heap.size + 3) s' z.st) ∧ w'.heap[w.heap.size + 2]? = some (.cells (outA 0 0 0) 57 (0, 0))
  | _, w' => St0 w t s op x w' ∧ (∃ s', w'.heap[w.heap.size + 1]? = some (.cells (taskA z s') 51 (0, 0)) ∧ Own32 w' (w.heap.size + 3) s' z.st) ∧ w'.heap[w.heap.size + 2]? = some (.cells (outA k v c) 57 (0, 0))
section
variable {w w' w'' : World} {t z : TK} {s s' : Value} {op x k v c : Int} {n : Nat}
theorem SR.start (h : StB w t s op x w') : SR w t s op x z k v c 0 w' := ⟨h.toSt0, h.z1, h.z2⟩
theorem SR.st (h : SR w t s op x z k v c n w') : St0 w t s op x w' := by
  match n, h with
  | 0, h => exact h.1
  | 1, h => exact h.1
  | n + 2, h => exact h.1
theorem SR.sz3 (h : SR w t s op x z k v c n w') : w.heap.size + 3 ≤ w'.heap.size := by
  have := h.st.sz
  match n, h with
  | 0, h => have := (Array.getElem?_eq_some_iff.1 h.2.2).1; omega
  | 1, h => have := (Array.getElem?_eq_some_iff.1 h.2.2).1; omega
  | n + 2, h => have := (Array.getElem?_eq_some_iff.1 h.2.2).1; omega
theorem SR.step (h : SR w t s op x z k v c n w') (hb : Below w'.heap.size w' w'') : SR w t s op x z k v c n w'' := by
  have h0 := h.st
  have := h.sz3
  match n, h with
  | 0, h => exact ⟨h0.step hb, heapLater hb (by omega) h.2.1, heapLater hb (by omega) h.2.2⟩
  | 1, h => obtain ⟨_, ⟨s', h1, h2⟩, h3⟩ := h; exact ⟨h0.step hb, ⟨s', heapLater hb (by omega) h1, h2.below hb⟩, heapLater hb (by omega) h3⟩
  | n + 2, h => obtain ⟨_, ⟨s', h1, h2⟩, h3⟩ := h; exact ⟨h0.step hb, ⟨s', heapLater hb (by omega) h1, h2.below hb⟩, heapLater hb (by omega) h3⟩
theorem SR.one (h : SR w t s op x z k v c 0 w') (ho : Own32 w' (w.heap.size + 3) s' z.st) : SR w t s op x z k v c 1 (w'.setRow (w.heap.size + 1) (taskA z s')) :=
  ⟨h.1.row (by omega) _, ⟨s', row_at h.2.1 _, ho.row (by omega)⟩, (row_far (by omega)).trans h.2.2⟩
theorem SR.two (h : SR w t s op x z k v c 1 w') : SR w t s op x z k v c 2 (w'.setRow (w.heap.size + 2) (outA k v c)) := by
  obtain ⟨h0, ⟨s', h1, h2⟩, h3⟩ := h
  exact ⟨h0.row (by omega) _, ⟨s', (row_far (by omega)).trans h1, h2.row (by omega)⟩, row_at h3 _⟩
theorem SR.ret {fn : Func} {a : Act} {p q : Nat} (h : SR w t s op x z k v c 2 w') (hr : fn.results = #[.cell p 51, .cell q 57]) (hd : a.defers = [])
    (hp : a.tmps.getD p undef = .pointer (some ⟨w.heap.size + 1, 0, none⟩)) (hq : a.tmps.getD q undef = .pointer (some ⟨w.heap.size + 2, 0, none⟩)) : bodyPost Try.prog fn (TO w z k v c) .ret a w' := by
  obtain ⟨h0, ⟨s', h1, h2⟩, h3⟩ := h
  exact ret_task_out hr hd hp hq h1 h3 ⟨⟨s', rfl, h2.less (by omega)⟩, h0.bl⟩
end
theorem Reg.Known.keepX {val : Nat → Value} {X : Nat → Value → World → Prop} {sp : List Nat} {i : Nat} {v : Value} {w w' : World} (h : Reg.Known val X sp i v w) (hx : X i v w → X i v w') : Reg.Known val X sp i v w' := ⟨h.plain, fun e => hx (h.other e)⟩
/-- What Drop hands back. -/
def NewT (w : World) (z : TK) (v : Value) (w' : World) : Prop := ∃ s', v = taskV z s' ∧ Own32 w' (w.heap.size + 3) s' z.st
theorem NewT.step {w w' w'' : World} {z : TK} {v : Value} (h : NewT w z v w') (hb : Below w'.heap.size w' w'') : NewT w z v w'' := by
  obtain ⟨s', e, h⟩ := h; exact ⟨s', e, h.below hb⟩
theorem NewT.row {w w' : World} {z : TK} {v : Value} {g : Nat} {cs : Array Value} (h : NewT w z v w') (hg : g < w.heap.size + 3) : NewT w z v (w'.setRow g cs) := by
  obtain ⟨s', e, h⟩ := h; exact ⟨s', e, h.row hg⟩
/-- What a method hands back. -/
def NewTO (w : World) (z : TK) (k v c : Int) (u : Value) (w' : World) : Prop := ∃ s', u = .tuple #[taskV z s', outV k v c] ∧ Own32 w' (w.heap.size + 3) s' z.st
theorem NewTO.step {w w' w'' : World} {z : TK} {k v c : Int} {u : Value} (h : NewTO w z k v c u w') (hb : Below w'.heap.size w' w'') : NewTO w z k v c u w'' := by
  obtain ⟨s', e, h⟩ := h; exact ⟨s', e, h.below hb⟩
theorem NewTO.row {w w' : World} {z : TK} {k v c : Int} {u : Value} {g : Nat} {cs : Array Value} (h : NewTO w z k v c u w') (hg : g < w.heap.size + 3) : NewTO w z k v c u (w'.setRow g cs) := by
  obtain ⟨s', e, h⟩ := h; exact ⟨s', e, h.row hg⟩

def topZ (l : List Int) (j : Nat) : Int := l.getD (l.length - 1 - j) 0

set_option maxRecDepth 100000 in
set_option maxHeartbeats 8000000 in
theorem fromTop_any (t : TK) (s : Value) (op x : Int) (j : Nat) (w : World) (hs : I32V w w.heap.size s t.st) (hn : t.st.length ≤ 100000) (hj : j < t.st.length) :
    Calls Try.prog 121 #[stV t s op x, .int .i64 j] w fun e w' => e = .returned (.int .i32 (topZ t.st j)) ∧ Below w.heap.size w w' := by
  obtain ⟨A, c, rfl, hc, hl⟩ := hs
  obtain ⟨b, off, rfl, hb, hcell⟩ := lie_i32 hl (k := t.st.length - 1 - j) (by omega)
  have hv : t.st[t.st.length - 1 - j]'(by omega) = topZ t.st j := by unfold topZ; rw [List.getD_eq_getElem?_getD, List.getElem?_eq_getElem (by omega)]; rfl
  rw [hv] at hcell
  obtain ⟨y, hy⟩ : ∃ y, topZ t.st j = y := ⟨_, rfl⟩
  rw [hy] at hcell ⊢
  obtain ⟨n, hnn⟩ : ∃ n, t.st.length = n := ⟨_, rfl⟩
  rw [hnn] at hn hj hcell ⊢
  have B := Lib.hid (below_alloc w (.cells (stateA t (.slice (some ⟨b, off, none⟩) n c) op x) 106))
  clear hl hnn hv hy
  unfold stV stateA
  go_enter Try.func121, Try.ntmps121
  go_wp2_with fail
  go_ret
  exact ⟨rfl, B.out⟩

def un3Val (T O : Value) (_g : Nat) : Nat → Value
  | 0 => T
  | 1 => O
  | 2 => undef
  | 3 => undef
  | _ => undef


/-- The cells that unchanged stores into, with the copy and the outcome to be handed back. -/
structure Un (w : World) (t : TK) (s : Value) (k v c : Int) (w' : World) : Prop where
  t6 : w'.heap[w.heap.size + 4]? = some (.cells (taskA t s) 51 (0, 0))
  t3 : w'.heap[w.heap.size + 1]? = some (.cells (outA k v c) 57 (0, 0))
  ow : Own32 w' (w.heap.size + 5) s t.st
  bl : Below w.heap.size w w'
def UnS (w : World) (t : TK) (s : Value) (k v c : Int) : Nat → World → Prop
  | 0, w' => Un w t s k v c w' ∧ w'.heap[w.heap.size + 2]? = some (.cells (taskA zT nilV) 51 (0, 0)) ∧ w'.heap[w.heap.size + 3]? = some (.cells (outA 0 0 0) 57 (0, 0))
  | 1, w' => Un w t s k v c w' ∧ w'.heap[w.heap.size + 2]? = some (.cells (taskA t s) 51 (0, 0)) ∧ w'.heap[w.heap.size + 3]? = some (.cells (outA 0 0 0) 57 (0, 0))
  | _, w' => Un w t s k v c w' ∧ w'.heap[w.heap.size + 2]? = some (.cells (taskA t s) 51 (0, 0)) ∧ w'.heap[w.heap.size + 3]? = some (.cells (outA k v c) 57 (0, 0))
theorem UnS.un {w w' : World} {t : TK} {s : Value} {k v c : Int} {n : Nat} (h : UnS w t s k v c n w') : Un w t s k v c w' := by
  match n, h with
  | 0, h => exact h.1
  | 1, h => exact h.1
  | n + 2, h => exact h.1
theorem Un.row {w w' : World} {t : TK} {s : Value} {k v c : Int} (h : Un w t s k v c w') {g : Nat} (hg : g = w.heap.size + 2 ∨ g = w.heap.size + 3) (cs : Array Value) : Un w t s k v c (w'.setRow g cs) :=
  ⟨(row_far (by omega)).trans h.t6, (row_far (by omega)).trans h.t3, h.ow.row (by omega), h.bl.trans (row_below (by omega))⟩
theorem Un.drew {w w' : World} {t : TK} {s : Value} {k v c : Int} (h : Un w t s k v c w') : Un w t s k v c w'.drew := ⟨h.t6, h.t3, h.ow.below (Below.refl _ _).drew, h.bl.drew⟩
theorem UnS.one {w w' : World} {t : TK} {s : Value} {k v c : Int} (h : UnS w t s k v c 0 w') : UnS w t s k v c 1 (w'.setRow (w.heap.size + 2) (taskA t s)) :=
  ⟨h.1.row (.inl rfl) _, row_at h.2.1 _, (row_far (by omega)).trans h.2.2⟩
theorem UnS.two {w w' : World} {t : TK} {s : Value} {k v c : Int} (h : UnS w t s k v c 1 w') : UnS w t s k v c 2 (w'.setRow (w.heap.size + 3) (outA k v c)) :=
  ⟨h.1.row (.inr rfl) _, (row_far (by omega)).trans h.2.1, row_at h.2.2 _⟩

set_option maxRecDepth 100000 in
set_option maxHeartbeats 8000000 in
theorem unchanged_any (t : TK) (s : Value) (op x k v c : Int) (w : World) (hs : I32V w w.heap.size s t.st) (hn : t.st.length ≤ 100000) :
    Calls Try.prog 63 #[stV t s op x, outV k v c] w (TO w t k v c) := by
  have HS := Lib.hid hs
  obtain ⟨A, cp, rfl, _, _⟩ := hs
  obtain ⟨n, hnn⟩ : ∃ n, t.st.length = n := ⟨_, rfl⟩
  have HN := Lib.hid hnn
  rw [hnn] at HS hn ⊢
  clear hnn
  unfold stV stateA outV outA
  go_enter Try.func63, Try.ntmps63
  have W5 := (((((nextB (below_alloc w (.cells (stateA t (.slice A n cp) op x) 106)) (below_alloc _ (.cells (outA k v c) 57)))))))
  go_upto_region 2 with (fail)
  obtain ⟨w5, h5⟩ : ∃ w5, w5 = ((((w.alloc (.cells (stateA t (.slice A n cp) op x) 106)).alloc (.cells (outA k v c) 57)).alloc (.cells (taskA zT nilV) 51)).alloc (.cells (outA 0 0 0) 57)).alloc (.cells (taskA t (.slice A n cp)) 51) := ⟨_, rfl⟩
  have B5 : Hid (Below w.heap.size w w5) := Lib.hid (by rw [h5]; exact nextB (nextB (nextB W5 (below_alloc _ _)) (below_alloc _ _)) (below_alloc _ _))
  have a6 : w5.heap[w.heap.size + 4]? = some (.cells (taskA t (.slice A n cp)) 51 (0, 0)) := by rw [h5]; exact heapNew (by simp)
  have a5 : w5.heap[w.heap.size + 3]? = some (.cells (outA 0 0 0) 57 (0, 0)) := by rw [h5]; exact heapOld (heapNew (by simp))
  have a4 : w5.heap[w.heap.size + 2]? = some (.cells (taskA zT nilV) 51 (0, 0)) := by rw [h5]; exact heapOld (heapOld (heapNew (by simp)))
  have a3 : w5.heap[w.heap.size + 1]? = some (.cells (outA k v c) 57 (0, 0)) := by rw [h5]; exact heapOld (heapOld (heapOld (heapNew (by simp))))
  have hsz : w5.heap.size = w.heap.size + 5 := by rw [h5]; simp
  have c3 : w5.cell? ⟨w.heap.size + 4, 3, none⟩ = some (.slice A n cp) := cell_blk a6 3
  have HS5 := Lib.hid (HS.out.later B5.out)
  have A6 := Lib.hid a6; have A5 := Lib.hid a5; have A4 := Lib.hid a4; have A1 := Lib.hid a3; have HSZ := Lib.hid hsz
  rw [show Code.wp Try.prog _ _ _ _ = Code.wp Try.prog _ _ _ w5 from by rw [h5]; rfl]
  clear h5 a6 a5 a4 a3 hsz W5 HS
  go_wp2_with fail
  refine (clone_any _ t.st w5 HS5.out (by rw [HN.out]; exact hn)).mono ?_
  rintro e w6 ⟨⟨s', rfl, ho⟩, hb⟩
  obtain ⟨A3, m3, k3, rfl⟩ := ho.shape
  have hsz := HSZ.out
  have a6 := heapLater hb (by omega) A6.out
  have B6 := Lib.hid (nextB B5.out hb)
  have C5 := Lib.hid (heapLater hb (by omega) A5.out); have C4 := Lib.hid (heapLater hb (by omega) A4.out); have C3 := Lib.hid (heapLater hb (by omega) A1.out)
  have c3 : w6.cell? ⟨w.heap.size + 4, 3, none⟩ = some (.slice A n cp) := cell_blk a6 3
  have f3 : w6.frozen? ⟨w.heap.size + 4, 3, none⟩ = false := frozen_blk a6 3
  have C6 := Lib.hid a6; have HO := Lib.hid (hsz ▸ ho)
  clear a6 hb ho hsz A6 A5 A4 A1 B5 HSZ HS5
  go_upto_region 3 with (fail)
  obtain ⟨w7, h7⟩ : ∃ w7, w6.setCell ⟨w.heap.size + 4, 3, none⟩ (.slice A3 m3 k3) = w7 := ⟨_, rfl⟩
  rw [show Code.wp Try.prog _ _ _ _ = Code.wp Try.prog _ _ _ w7 from by rw [← h7]]
  have HO7 : Hid (Own32 w7 (w.heap.size + 5) (.slice A3 m3 k3) t.st) := Lib.hid (by rw [← h7]; exact HO.out.keep fun k hk _ => cell_far (by omega))
  have HUN : Hid (Un w t (.slice A3 m3 k3) k v c w7) := Lib.hid (by
    refine ⟨?_, ?_, HO7.out, ?_⟩
    · rw [← h7]; exact set_blk C6.out 3 _
    · rw [← h7, cell_far (by omega)]; exact C3.out
    · rw [← h7]; exact B6.out.trans (cell_below (by omega) _))
  have HZ4 : Hid (w7.heap[w.heap.size + 2]? = some (.cells (taskA zT nilV) 51 (0, 0))) := Lib.hid (by rw [← h7, cell_far (by omega)]; exact C4.out)
  have HZ5 : Hid (w7.heap[w.heap.size + 3]? = some (.cells (outA 0 0 0) 57 (0, 0))) := Lib.hid (by rw [← h7, cell_far (by omega)]; exact C5.out)
  clear h7 c3 f3 C6 C5 C4 C3 HO B6
  refine Reg.wp_facts_sl [13, 14] rfl [2, 3] [[], [], [(0, 13)], [(1, 14)]] [] (Reg.Known (un3Val (taskV t (.slice A3 m3 k3)) (outV k v c) w.heap.size) (fun _ _ _ => True) []) (UnS w t (.slice A3 m3 k3) k v c) (by kernel_rfl) (by kernel_rfl) ?start ?steps ?finish
  case start => exact ⟨HUN.out.drew, HZ4.out, HZ5.out⟩
  case steps =>
    refine Reg.Steps.zip ?_ ?_
    · refine Reg.step_go rfl ?_
      intro a wi ki hf hd hS hc K hK
      have f6 : a.tmps.getD 6 undef = .pointer (some ⟨(w.heap.size + 4), 0, none⟩) := hf.same 6 rfl
      clear hf hd
      exact wpTask _ rfl _ _ _ f6 _ _ hS.un.t6 (hK _ _ (Reg.Known.mk_val rfl rfl) (fun _ _ h => h) hS)
    refine Reg.Steps.zip ?_ ?_
    · refine Reg.step_go rfl ?_
      intro a wi ki hf hd hS hc K hK
      have f3 : a.tmps.getD 3 undef = .pointer (some ⟨(w.heap.size + 1), 0, none⟩) := hf.same 3 rfl
      clear hf hd
      exact wpOut _ rfl _ _ _ _ f3 _ _ hS.un.t3 (hK _ _ (Reg.Known.mk_val rfl rfl) (fun _ _ h => h) hS)
    refine Reg.Steps.zip ?_ ?_
    · refine Reg.step_go rfl ?_
      intro a wi ki hf hd hS hc K hK
      have e13 : a.tmps.getD 13 undef = (taskV t (.slice A3 m3 k3)) := hd.1.plain rfl
      have f4 : a.tmps.getD 4 undef = .pointer (some ⟨(w.heap.size + 2), 0, none⟩) := hf.same 4 rfl
      clear hf hd
      obtain rfl := hc 0 rfl
      exact wpPutTask _ _ rfl _ _ _ f4 e13 _ _ _ hS.2.1 HO7.out.one (hK _ _ (Reg.Known.mk_val rfl rfl) (fun _ _ h => Reg.Known.keepX h id) hS.one)
    refine Reg.Steps.zip ?_ ?_
    · refine Reg.step_go rfl ?_
      intro a wi ki hf hd hS hc K hK
      have e14 : a.tmps.getD 14 undef = (outV k v c) := hd.1.plain rfl
      have f5 : a.tmps.getD 5 undef = .pointer (some ⟨(w.heap.size + 3), 0, none⟩) := hf.same 5 rfl
      clear hf hd
      obtain rfl := hc 1 rfl
      exact wpPutOut _ _ rfl _ _ _ _ f5 e14 _ _ _ _ hS.2.2 (hK _ _ (Reg.Known.mk_val rfl rfl) (fun _ _ h => Reg.Known.keepX h id) hS.two)
    exact Reg.Steps.nil
  case finish =>
    intro a w8 hf hd hS
    obtain ⟨hu, h4, h5⟩ := hS
    have f4 : a.tmps.getD 4 undef = .pointer (some ⟨(w.heap.size + 2), 0, none⟩) := hf.same 4 rfl
    have f5 : a.tmps.getD 5 undef = .pointer (some ⟨(w.heap.size + 3), 0, none⟩) := hf.same 5 rfl
    have hd0 : a.defers = [] := hf.defers
    go_wp2_with fail
    exact ret_task_out rfl hd0 f4 f5 h4 h5 ⟨⟨_, rfl, hu.ow.less (by omega)⟩, hu.bl⟩

set_option maxRecDepth 100000 in
set_option maxHeartbeats 8000000 in
theorem failed_any (t : TK) (s : Value) (op x c : Int) (w : World) (hs : I32V w w.heap.size s t.st) (hn : t.st.length ≤ 100000) :
    Calls Try.prog 61 #[stV t s op x, .int .i64 c] w (TO w t 3 0 c) := by
  have HST : Hid (StB w t s op x (((w.alloc (.cells (stateA t s op x) 106)).alloc (.cells (taskA zT nilV) 51)).alloc (.cells (outA 0 0 0) 57))) := Lib.hid (StB.start hs)
  obtain ⟨w3, h3⟩ : ∃ w3, w3 = ((w.alloc (.cells (stateA t s op x) 106)).alloc (.cells (taskA zT nilV) 51)).alloc (.cells (outA 0 0 0) 57) := ⟨_, rfl⟩
  rw [← h3] at HST
  unfold stV stateA
  go_enter Try.func61, Try.ntmps61
  go_upto_region 1 with (fail)
  rw [show Code.wp Try.prog _ _ _ _ = Code.wp Try.prog _ _ _ w3 from by rw [h3]; rfl]
  clear h3
  go_wp2_with (first | (refine load_state rfl _ rfl _ _ _ _ _ rfl _ _ HST.out.bx ?_) | fail)
  refine (unchanged_any t s op x 3 0 c w3 HST.out.st hn).mono ?_
  rintro e w4 ⟨⟨s', rfl, ho⟩, hb⟩
  have H4 := Lib.hid (HST.out.step hb)
  have HO : Hid (Own32 w4 (w.heap.size + 3) s' t.st) := Lib.hid (ho.less HST.out.sz3)
  have HZ2 : Hid ((w4.setRow (w.heap.size + 1) (taskA t s')).heap[w.heap.size + 2]? = some (.cells (outA 0 0 0) 57 (0, 0))) := Lib.hid ((row_far (by omega)).trans H4.out.z2)
  clear ho hb HST
  go_wp2_with (first | (refine store_task rfl _ _ rfl rfl _ t s' rfl rfl _ _ _ H4.out.z1 HO.out.one ?_) | (refine store_out rfl _ _ rfl rfl _ 3 0 c rfl rfl _ _ _ _ HZ2.out ?_) | fail)
  exact (SR.one (k := 3) (v := 0) (c := c) (SR.start H4.out) HO.out).two.ret rfl rfl rfl rfl

def we1Val (_T : Value) (g : Nat) (U Y : Value) (op p : Int) : Nat → Value
  | 0 => .pointer (some ⟨g, 0, none⟩)
  | 1 => U
  | 2 => .pointer (some ⟨g, 12, none⟩)
  | 3 => .pointer (some ⟨g, 12, none⟩)
  | 4 => .int .i64 op
  | 5 => .int .i64 p
  | 6 => Y
  | 8 => (outV 1 0 0)
  | 9 => undef
  | 10 => undef
  | _ => undef


theorem dropZ_pc (t : TK) (k : Int) (ps : List Int) : dropZ t k ps = dropZ t k ps := rfl
set_option maxRecDepth 100000 in
set_option maxHeartbeats 8000000 in
theorem went_any (t : TK) (s : Value) (op x : Int) (s2 : Value) (ps : List Int) (w : World) (hs : I32V w w.heap.size s t.st) (hp : I32V w w.heap.size s2 ps) (hn : t.st.length ≤ 100000) (hm : ps.length ≤ 100000) :
    Calls Try.prog 120 #[stV t s op x, s2] w (TO w (dropZ t (popsZ op) ps) 1 0 0) := by
  have HST : Hid (StB w t s op x (((w.alloc (.cells (stateA t s op x) 106)).alloc (.cells (taskA zT nilV) 51)).alloc (.cells (outA 0 0 0) 57))) := Lib.hid (StB.start hs)
  obtain ⟨w3, h3⟩ : ∃ w3, w3 = ((w.alloc (.cells (stateA t s op x) 106)).alloc (.cells (taskA zT nilV) 51)).alloc (.cells (outA 0 0 0) 57) := ⟨_, rfl⟩
  rw [← h3] at HST
  obtain ⟨p, hp2⟩ : ∃ p, popsZ op = p := ⟨_, rfl⟩
  have HP : Hid (∀ w, Calls Try.prog 90 #[.int .i64 op] w fun e w' => e = .returned (.int .i64 p) ∧ Below w.heap.size w w') := Lib.hid fun w => by rw [← hp2]; exact pops_any op w
  have HPS : Hid (∀ w', Below w.heap.size w w' → I32V w' w'.heap.size s2 ps) := Lib.hid fun w' hb => hp.later hb
  rw [hp2]
  obtain ⟨z, hz⟩ : ∃ z, dropZ t p ps = z := ⟨_, rfl⟩
  have HD : Hid (∀ w, I32V w w.heap.size s t.st → I32V w w.heap.size s2 ps → Calls Try.prog 28 #[taskV t s, .int .i64 p, s2] w (TD w z)) := Lib.hid fun w h1 h2 => by rw [← hz]; exact drop_any t s p s2 ps w h1 h2 hn hm
  rw [hz]
  clear hp2 hz hs hp
  unfold stV stateA
  go_enter Try.func120, Try.ntmps120
  go_upto_region 1 with (fail)
  rw [show Code.wp Try.prog _ _ _ _ = Code.wp Try.prog _ _ _ w3 from by rw [h3]; rfl]
  clear h3
  refine Reg.wp_facts_sl [6, 7, 8, 9, 10, 11, 12, 13, 14] rfl [9, 10] [[], [(0, 6)], [], [(2, 8)], [(3, 9)], [(4, 10)], [], [(1, 7), (5, 11), (6, 12)], [], [(7, 13)], [(8, 14)]] [] (Reg.Known (we1Val (stV t s op x) w.heap.size (taskV t s) s2 op p) (fun _ v w' => NewT w z v w') [7]) (SR w t s op x z 1 0 0) (by kernel_rfl) (by kernel_rfl) ?start ?steps ?finish
  case start => exact SR.start (HST.out.step (Below.refl _ _).drew)
  case steps =>
    refine Reg.Steps.zip ?_ ?_
    · refine Reg.step_go rfl ?_
      intro a wi ki hf hd hS hc K hK
      have f2 : a.tmps.getD 2 undef = .pointer (some ⟨w.heap.size, 0, none⟩) := hf.same 2 rfl
      clear hf hd hc
      have hK0 := Lib.hid hK; clear hK
      have hS0 := Lib.hid hS; clear hS
      go_simp
      exact hK0.out _ _ (Reg.Known.mk_val rfl rfl) (fun _ _ h => h) hS0.out
    refine Reg.Steps.zip ?_ ?_
    · refine Reg.step_go rfl ?_
      intro a wi ki hf hd hS hc K hK
      have e6 : a.tmps.getD 6 undef = .pointer (some ⟨w.heap.size, 0, none⟩) := hd.1.plain rfl
      clear hf hd
      exact wpStTask _ rfl _ _ _ _ _ e6 _ _ hS.st.bx (hK _ _ (Reg.Known.mk_val rfl rfl) (fun _ _ h => h) hS)
    refine Reg.Steps.zip ?_ ?_
    · refine Reg.step_go rfl ?_
      intro a wi ki hf hd hS hc K hK
      have f2 : a.tmps.getD 2 undef = .pointer (some ⟨w.heap.size, 0, none⟩) := hf.same 2 rfl
      clear hf hd hc
      have hK0 := Lib.hid hK; clear hK
      have hS0 := Lib.hid hS; clear hS
      go_simp
      exact hK0.out _ _ (Reg.Known.mk_val rfl rfl) (fun _ _ h => h) hS0.out
    refine Reg.Steps.zip ?_ ?_
    · refine Reg.step_go rfl ?_
      intro a wi ki hf hd hS hc K hK
      have e8 : a.tmps.getD 8 undef = .pointer (some ⟨w.heap.size, 12, none⟩) := hd.1.plain rfl
      clear hf hd hc
      have hK0 := Lib.hid hK; clear hK
      have hS0 := Lib.hid hS; clear hS
      go_simp
      exact hK0.out _ _ (Reg.Known.mk_val rfl rfl) (fun _ _ h => h) hS0.out
    refine Reg.Steps.zip ?_ ?_
    · refine Reg.step_go rfl ?_
      intro a wi ki hf hd hS hc K hK
      have e9 : a.tmps.getD 9 undef = .pointer (some ⟨w.heap.size, 12, none⟩) := hd.1.plain rfl
      clear hf hd hc
      have cc := hS.st.c12
      have hK0 := Lib.hid hK; clear hK
      have hS0 := Lib.hid hS; clear hS
      go_simp
      exact hK0.out _ _ (Reg.Known.mk_val rfl rfl) (fun _ _ h => h) hS0.out
    refine Reg.Steps.zip ?_ ?_
    · refine Reg.step_go rfl ?_
      intro a wi ki hf hd hS hc K hK
      have e10 : a.tmps.getD 10 undef = .int .i64 op := hd.1.plain rfl
      clear hf hd
      have HS : Hid (St0 w t s op x wi) := Lib.hid hS.st
      have HSS := Lib.hid hS; clear hS
      have hK0 := Lib.hid hK; clear hK hc
      go_simp
      refine (HP.out wi).mono ?_
      rintro e wA ⟨rfl, hbA⟩
      exact hK0.out _ _ (Reg.Known.mk_val rfl rfl) (fun i u h => Reg.Known.keepX h (fun hx => hx.step hbA)) (HSS.out.step hbA)
    refine Reg.Steps.zip ?_ ?_
    · refine Reg.step_go rfl ?_
      intro a wi ki hf hd hS hc K hK
      have f1 : a.tmps.getD 1 undef = s2 := hf.same 1 rfl
      clear hf hd hc
      have hK0 := Lib.hid hK; clear hK
      have hS0 := Lib.hid hS; clear hS
      go_simp
      exact hK0.out _ _ (Reg.Known.mk_val rfl rfl) (fun _ _ h => h) hS0.out
    refine Reg.Steps.zip ?_ ?_
    · refine Reg.step_go rfl ?_
      intro a wi ki hf hd hS hc K hK
      have e7 : a.tmps.getD 7 undef = (taskV t s) := hd.1.plain rfl
      have e11 : a.tmps.getD 11 undef = .int .i64 p := hd.2.1.plain rfl
      have e12 : a.tmps.getD 12 undef = s2 := hd.2.2.1.plain rfl
      clear hf hd
      have HZ3 := Lib.hid hS.sz3
      have HS : Hid (St0 w t s op x wi) := Lib.hid hS.st
      have HSS := Lib.hid hS; clear hS
      have hK0 := Lib.hid hK; clear hK hc
      go_simp
      refine (HD.out wi HS.out.st (HPS.out wi HS.out.bl)).mono ?_
      rintro e wA ⟨⟨s', rfl, ho⟩, hbA⟩
      exact hK0.out _ _ (Reg.Known.mk_other rfl ⟨s', rfl, ho.less HZ3.out⟩) (fun i u h => Reg.Known.keepX h (fun hx => hx.step hbA)) (HSS.out.step hbA)
    refine Reg.Steps.zip ?_ ?_
    · refine Reg.step_go rfl ?_
      intro a wi ki hf hd hS hc K hK
      clear hf hd hc
      have hK0 := Lib.hid hK; clear hK
      have hS0 := Lib.hid hS; clear hS
      go_simp
      exact hK0.out _ _ (Reg.Known.mk_val rfl rfl) (fun _ _ h => h) hS0.out
    refine Reg.Steps.zip ?_ ?_
    · refine Reg.step_go rfl ?_
      intro a wi ki hf hd hS hc K hK
      have x13 := hd.1.other rfl
      have f4 : a.tmps.getD 4 undef = .pointer (some ⟨(w.heap.size + 1), 0, none⟩) := hf.same 4 rfl
      clear hf hd
      obtain rfl := hc 0 rfl
      obtain ⟨s', e13, ho⟩ : NewT w z _ wi := x13
      exact wpPutTask _ _ rfl _ _ _ f4 e13 _ _ _ hS.2.1 ho.one (hK _ _ (Reg.Known.mk_val rfl rfl) (fun i u h => Reg.Known.keepX h (fun hx => hx.row (by omega))) (hS.one ho))
    refine Reg.Steps.zip ?_ ?_
    · refine Reg.step_go rfl ?_
      intro a wi ki hf hd hS hc K hK
      have e14 : a.tmps.getD 14 undef = (outV 1 0 0) := hd.1.plain rfl
      have f5 : a.tmps.getD 5 undef = .pointer (some ⟨(w.heap.size + 2), 0, none⟩) := hf.same 5 rfl
      clear hf hd
      obtain rfl := hc 1 rfl
      exact wpPutOut _ _ rfl _ _ _ _ f5 e14 _ _ _ _ hS.2.2 (hK _ _ (Reg.Known.mk_val rfl rfl) (fun i u h => Reg.Known.keepX h (fun hx => hx.row (by omega))) hS.two)
    exact Reg.Steps.nil
  case finish =>
    intro a w8 hf hd hS
    have f4 : a.tmps.getD 4 undef = .pointer (some ⟨(w.heap.size + 1), 0, none⟩) := hf.same 4 rfl
    have f5 : a.tmps.getD 5 undef = .pointer (some ⟨(w.heap.size + 2), 0, none⟩) := hf.same 5 rfl
    have hd0 : a.defers = [] := hf.defers
    go_wp2_with fail
    exact hS.ret rfl hd0 f4 f5

end Go.Proofs.Ytlmbjnegajiphaa
