/- The methods of a task's state that carry out an instruction. (Drawn: gen/s10.py; written by gen/mkdo10.py.) -/
import Derived.Test.YtjnlgmjcabbaaaaSt10
import Derived.Test.YtjnlgmjcabbaaaaWord
namespace Go.Proofs.Ytjnlgmjcabbaaaa
set_option maxRecDepth 100000
open Go.RowKit

def wentZ (t : TK) (op : Int) (ps : List Int) : TK := dropZ t (popsZ op) ps
def varZ (t : TK) (i : Nat) : Int := if i = 0 then t.v0 else if i = 1 then t.v1 else if i = 2 then t.v2 else t.v3
def setVar (t : TK) (i : Nat) (y : Int) : TK := if i = 0 then { t with v0 := y } else if i = 1 then { t with v1 := y } else if i = 2 then { t with v2 := y } else { t with v3 := y }
theorem setVar_at (t : TK) (s : Value) (i : Nat) (y : Int) (hi : i < 4) : (taskA t s).setIfInBounds (4 + i) (.int .i32 y) = taskA (setVar t i y) s := by
  rcases (by omega : i = 0 ∨ i = 1 ∨ i = 2 ∨ i = 3) with rfl | rfl | rfl | rfl <;> rfl
theorem setVar_st (t : TK) (i : Nat) (y : Int) : (setVar t i y).st = t.st := by
  unfold setVar; split
  · rfl
  · split
    · rfl
    · split <;> rfl
theorem varZ_at (t : TK) (s : Value) (op x : Int) (i : Nat) (hi : i < 4) : (stateA t s op x)[4 + i]? = some (.int .i32 (varZ t i)) := by
  rcases (by omega : i = 0 ∨ i = 1 ∨ i = 2 ∨ i = 3) with rfl | rfl | rfl | rfl <;> rfl
theorem Own32.apart {w : World} {base p ty i : Nat} {v u : Value} {l : List Int} {cs : Array Value} {fr : Nat × Nat} (h : Own32 w base v l) (hp : w.heap[p]? = some (.cells cs ty fr)) (hty : ty ≠ 21) : Own32 (w.setCell ⟨p, i, none⟩ u) base v l := by
  refine ⟨h.1, ?_⟩
  rcases h.2 with h2 | ⟨g, cap, cur, e, hb, hg, h3⟩
  · exact .inl h2
  · have hne : g ≠ p := by
      rintro rfl
      rw [hp] at hg; injection hg with hg; injection hg with _ e2; exact hty e2
    exact .inr ⟨g, cap, cur, e, hb, (cell_far hne).trans hg, h3⟩
theorem Own32.fresh (w : World) (l : List Int) (hl : l.length ≤ 1000) {base : Nat} (hb : base ≤ w.heap.size) : Own32 (w.alloc (.cells (i32s l).toArray 21)) base (.slice (some ⟨w.heap.size, 0, none⟩) l.length l.length) l :=
  ⟨by simp [i32s], .inr ⟨_, l.length, _, rfl, hb, heap_alloc_new w _, Nat.le_refl _, by unfold maxLen; omega, by simp [i32s], by simp [i32s, List.take_of_length_le]⟩⟩

/-- A task and an outcome in cells of their own are copied into the results' cells. -/
structure Mv (w : World) (sT sO : Nat) (t : TK) (s : Value) (k v c : Int) (w' : World) : Prop where
  T : w'.heap[sT]? = some (.cells (taskA t s) 66 (0, 0))
  O : w'.heap[sO]? = some (.cells (outA k v c) 71 (0, 0))
  ow : Own32 w' (w.heap.size + 3) s t.st
  bl : Below w.heap.size w w'
  lT : w.heap.size + 3 ≤ sT
  lO : w.heap.size + 3 ≤ sO
def MvS (w : World) (sT sO : Nat) (t : TK) (s : Value) (k v c : Int) : Nat → World → Prop
  | 0, w' => Mv w sT sO t s k v c w' ∧ w'.heap[w.heap.size + 1]? = some (.cells (taskA zT nilV) 66 (0, 0)) ∧ w'.heap[w.heap.size + 2]? = some (.cells (outA 0 0 0) 71 (0, 0))
  | 1, w' => Mv w sT sO t s k v c w' ∧ w'.heap[w.heap.size + 1]? = some (.cells (taskA t s) 66 (0, 0)) ∧ w'.heap[w.heap.size + 2]? = some (.cells (outA 0 0 0) 71 (0, 0))
  | _, w' => Mv w sT sO t s k v c w' ∧ w'.heap[w.heap.size + 1]? = some (.cells (taskA t s) 66 (0, 0)) ∧ w'.heap[w.heap.size + 2]? = some (.cells (outA k v c) 71 (0, 0))
section
variable {w w' : World} {sT sO n : Nat} {t : TK} {s : Value} {k v c : Int}
theorem MvS.un (h : MvS w sT sO t s k v c n w') : Mv w sT sO t s k v c w' := by
  match n, h with
  | 0, h => exact h.1
  | 1, h => exact h.1
  | n + 2, h => exact h.1
theorem Mv.row (h : Mv w sT sO t s k v c w') {g : Nat} (hg : g = w.heap.size + 1 ∨ g = w.heap.size + 2) (cs : Array Value) : Mv w sT sO t s k v c (w'.setRow g cs) :=
  have := h.lT; have := h.lO
  ⟨(row_far (by omega)).trans h.T, (row_far (by omega)).trans h.O, h.ow.row (by omega), h.bl.trans (row_below (by omega)), h.lT, h.lO⟩
theorem Mv.drew (h : Mv w sT sO t s k v c w') : Mv w sT sO t s k v c w'.drew := ⟨h.T, h.O, h.ow.below (Below.refl _ _).drew, h.bl.drew, h.lT, h.lO⟩
theorem MvS.one (h : MvS w sT sO t s k v c 0 w') : MvS w sT sO t s k v c 1 (w'.setRow (w.heap.size + 1) (taskA t s)) :=
  ⟨h.1.row (.inl rfl) _, row_at h.2.1 _, (row_far (by omega)).trans h.2.2⟩
theorem MvS.two (h : MvS w sT sO t s k v c 1 w') : MvS w sT sO t s k v c 2 (w'.setRow (w.heap.size + 2) (outA k v c)) :=
  ⟨h.1.row (.inr rfl) _, (row_far (by omega)).trans h.2.1, row_at h.2.2 _⟩
theorem MvS.ret {fn : Func} {a : Act} {p q : Nat} (h : MvS w sT sO t s k v c 2 w') (hr : fn.results = #[.cell p 66, .cell q 71]) (hd : a.defers = [])
    (hp : a.tmps.getD p undef = .pointer (some ⟨w.heap.size + 1, 0, none⟩)) (hq : a.tmps.getD q undef = .pointer (some ⟨w.heap.size + 2, 0, none⟩)) : bodyPost Try.prog fn (TO w t k v c) .ret a w' :=
  ret_task_out hr hd hp hq h.2.1 h.2.2 ⟨⟨_, rfl, h.1.ow.less (by omega)⟩, h.1.bl⟩
end

set_option maxRecDepth 100000 in
set_option maxHeartbeats 8000000 in
theorem pushM (t : TK) (s : Value) (op x : Int) (w : World) (hs : I32V w w.heap.size s t.st) (hn : t.st.length ≤ 100000) :
    Calls Try.prog 90 #[stV t s op x] w (TO w (wentZ t op [x]) 1 0 0) := by
  obtain ⟨z, hz⟩ : ∃ z, wentZ t op [x] = z := ⟨_, rfl⟩
  have HW : Hid (∀ w s2, I32V w w.heap.size s t.st → I32V w w.heap.size s2 [x] → Calls Try.prog 117 #[stV t s op x, s2] w (TO w z 1 0 0)) := Lib.hid fun w s2 h1 h2 => by rw [← hz]; exact went_any t s op x s2 [x] w h1 h2 hn (by simp)
  rw [hz]
  clear hz
  have HST : Hid (StB w t s op x (((w.alloc (.cells (stateA t s op x) 109)).alloc (.cells (taskA zT nilV) 66)).alloc (.cells (outA 0 0 0) 71))) := Lib.hid (StB.start hs)
  obtain ⟨w3, h3⟩ : ∃ w3, w3 = ((w.alloc (.cells (stateA t s op x) 109)).alloc (.cells (taskA zT nilV) 66)).alloc (.cells (outA 0 0 0) 71) := ⟨_, rfl⟩
  rw [← h3] at HST
  unfold stV stateA
  go_enter Try.func90, Try.ntmps90
  go_upto_region 1 with (fail)
  rw [show Code.wp Try.prog _ _ _ _ = Code.wp Try.prog _ _ _ w3 from by rw [h3]; rfl]
  clear h3 hs
  have cx := HST.out.c13
  have HA := Lib.hid (HST.out.step (below_alloc w3 (.cells (i32s [x]).toArray 21)))
  go_wp2_with (first | (refine load_state rfl _ rfl _ _ _ _ _ rfl _ _ HST.out.bx ?_) | fail)
  refine (HW.out _ _ HA.out.st (I32V.fresh w3 [x])).mono ?_
  rintro e w4 ⟨⟨s', rfl, ho⟩, hb⟩
  have H4 := Lib.hid (HA.out.step hb)
  have HO : Hid (Own32 w4 (w.heap.size + 3) s' z.st) := Lib.hid (ho.less HA.out.sz3)
  have HZ2 : Hid ((w4.setRow (w.heap.size + 1) (taskA z s')).heap[w.heap.size + 2]? = some (.cells (outA 0 0 0) 71 (0, 0))) := Lib.hid ((row_far (by omega)).trans H4.out.z2)
  clear ho hb
  go_wp2_with (first | (refine store_task rfl _ _ rfl rfl _ z s' rfl rfl _ _ _ H4.out.z1 HO.out.one ?_) | (refine store_out rfl _ _ rfl rfl _ 1 0 0 rfl rfl _ _ _ _ HZ2.out ?_) | fail)
  exact (SR.one (k := 1) (v := 0) (c := 0) (SR.start H4.out) HO.out).two.ret rfl rfl rfl rfl

set_option maxRecDepth 100000 in
set_option maxHeartbeats 8000000 in
theorem popM (t : TK) (s : Value) (op x : Int) (w : World) (hs : I32V w w.heap.size s t.st) (hn : t.st.length ≤ 100000) :
    Calls Try.prog 91 #[stV t s op x] w (TO w (wentZ t op []) 1 0 0) := by
  obtain ⟨z, hz⟩ : ∃ z, wentZ t op [] = z := ⟨_, rfl⟩
  have HW : Hid (∀ w s2, I32V w w.heap.size s t.st → I32V w w.heap.size s2 [] → Calls Try.prog 117 #[stV t s op x, s2] w (TO w z 1 0 0)) := Lib.hid fun w s2 h1 h2 => by rw [← hz]; exact went_any t s op x s2 [] w h1 h2 hn (by simp)
  rw [hz]
  clear hz
  have HST : Hid (StB w t s op x (((w.alloc (.cells (stateA t s op x) 109)).alloc (.cells (taskA zT nilV) 66)).alloc (.cells (outA 0 0 0) 71))) := Lib.hid (StB.start hs)
  obtain ⟨w3, h3⟩ : ∃ w3, w3 = ((w.alloc (.cells (stateA t s op x) 109)).alloc (.cells (taskA zT nilV) 66)).alloc (.cells (outA 0 0 0) 71) := ⟨_, rfl⟩
  rw [← h3] at HST
  unfold stV stateA
  go_enter Try.func91, Try.ntmps91
  go_upto_region 1 with (fail)
  rw [show Code.wp Try.prog _ _ _ _ = Code.wp Try.prog _ _ _ w3 from by rw [h3]; rfl]
  clear h3 hs
  go_wp2_with (first | (refine load_state rfl _ rfl _ _ _ _ _ rfl _ _ HST.out.bx ?_) | fail)
  refine (HW.out _ _ HST.out.st (I32V.nil _ _)).mono ?_
  rintro e w4 ⟨⟨s', rfl, ho⟩, hb⟩
  have H4 := Lib.hid (HST.out.step hb)
  have HO : Hid (Own32 w4 (w.heap.size + 3) s' z.st) := Lib.hid (ho.less HST.out.sz3)
  have HZ2 : Hid ((w4.setRow (w.heap.size + 1) (taskA z s')).heap[w.heap.size + 2]? = some (.cells (outA 0 0 0) 71 (0, 0))) := Lib.hid ((row_far (by omega)).trans H4.out.z2)
  clear ho hb
  go_wp2_with (first | (refine store_task rfl _ _ rfl rfl _ z s' rfl rfl _ _ _ H4.out.z1 HO.out.one ?_) | (refine store_out rfl _ _ rfl rfl _ 1 0 0 rfl rfl _ _ _ _ HZ2.out ?_) | fail)
  exact (SR.one (k := 1) (v := 0) (c := 0) (SR.start H4.out) HO.out).two.ret rfl rfl rfl rfl

set_option maxRecDepth 100000 in
set_option maxHeartbeats 8000000 in
theorem labelM (t : TK) (s : Value) (op x : Int) (w : World) (hs : I32V w w.heap.size s t.st) (hn : t.st.length ≤ 100000) :
    Calls Try.prog 99 #[stV t s op x] w (TO w (wentZ t op [wrap32 t.lb]) 1 0 0) := by
  obtain ⟨z, hz⟩ : ∃ z, wentZ t op [wrap32 t.lb] = z := ⟨_, rfl⟩
  have HW : Hid (∀ w s2, I32V w w.heap.size s t.st → I32V w w.heap.size s2 [wrap32 t.lb] → Calls Try.prog 117 #[stV t s op x, s2] w (TO w z 1 0 0)) := Lib.hid fun w s2 h1 h2 => by rw [← hz]; exact went_any t s op x s2 [wrap32 t.lb] w h1 h2 hn (by simp)
  rw [hz]
  clear hz
  have HST : Hid (StB w t s op x (((w.alloc (.cells (stateA t s op x) 109)).alloc (.cells (taskA zT nilV) 66)).alloc (.cells (outA 0 0 0) 71))) := Lib.hid (StB.start hs)
  obtain ⟨w3, h3⟩ : ∃ w3, w3 = ((w.alloc (.cells (stateA t s op x) 109)).alloc (.cells (taskA zT nilV) 66)).alloc (.cells (outA 0 0 0) 71) := ⟨_, rfl⟩
  rw [← h3] at HST
  unfold stV stateA
  go_enter Try.func99, Try.ntmps99
  go_upto_region 1 with (fail)
  rw [show Code.wp Try.prog _ _ _ _ = Code.wp Try.prog _ _ _ w3 from by rw [h3]; rfl]
  clear h3 hs
  have cx := HST.out.c8
  have HA := Lib.hid (HST.out.step (below_alloc w3 (.cells (i32s [wrap32 t.lb]).toArray 21)))
  go_wp2_with (first | (refine load_state rfl _ rfl _ _ _ _ _ rfl _ _ HST.out.bx ?_) | fail)
  refine (HW.out _ _ HA.out.st (I32V.fresh w3 [wrap32 t.lb])).mono ?_
  rintro e w4 ⟨⟨s', rfl, ho⟩, hb⟩
  have H4 := Lib.hid (HA.out.step hb)
  have HO : Hid (Own32 w4 (w.heap.size + 3) s' z.st) := Lib.hid (ho.less HA.out.sz3)
  have HZ2 : Hid ((w4.setRow (w.heap.size + 1) (taskA z s')).heap[w.heap.size + 2]? = some (.cells (outA 0 0 0) 71 (0, 0))) := Lib.hid ((row_far (by omega)).trans H4.out.z2)
  clear ho hb
  go_wp2_with (first | (refine store_task rfl _ _ rfl rfl _ z s' rfl rfl _ _ _ H4.out.z1 HO.out.one ?_) | (refine store_out rfl _ _ rfl rfl _ 1 0 0 rfl rfl _ _ _ _ HZ2.out ?_) | fail)
  exact (SR.one (k := 1) (v := 0) (c := 0) (SR.start H4.out) HO.out).two.ret rfl rfl rfl rfl

set_option maxRecDepth 100000 in
set_option maxHeartbeats 8000000 in
theorem failM (t : TK) (s : Value) (op x : Int) (hx : -2147483648 ≤ x ∧ x ≤ 2147483647) (w : World) (hs : I32V w w.heap.size s t.st) (hn : t.st.length ≤ 100000) :
    Calls Try.prog 101 #[stV t s op x] w (TO w t 3 0 x) := by
  have HST : Hid (StB w t s op x (((w.alloc (.cells (stateA t s op x) 109)).alloc (.cells (taskA zT nilV) 66)).alloc (.cells (outA 0 0 0) 71))) := Lib.hid (StB.start hs)
  obtain ⟨w3, h3⟩ : ∃ w3, w3 = ((w.alloc (.cells (stateA t s op x) 109)).alloc (.cells (taskA zT nilV) 66)).alloc (.cells (outA 0 0 0) 71) := ⟨_, rfl⟩
  rw [← h3] at HST
  unfold stV stateA
  go_enter Try.func101, Try.ntmps101
  go_upto_region 1 with (fail)
  rw [show Code.wp Try.prog _ _ _ _ = Code.wp Try.prog _ _ _ w3 from by rw [h3]; rfl]
  clear h3 hs
  have cx := HST.out.c13
  have hw : IntKind.i64.wrap x = x := IntWalk.i64_in _ (by omega)
  go_wp2_with (first | (refine load_state rfl _ rfl _ _ _ _ _ rfl _ _ HST.out.bx ?_) | fail)
  refine (failed_any t s op x x w3 HST.out.st hn).mono ?_
  rintro e w4 ⟨⟨s', rfl, ho⟩, hb⟩
  have H4 := Lib.hid (HST.out.step hb)
  have HO : Hid (Own32 w4 (w.heap.size + 3) s' t.st) := Lib.hid (ho.less HST.out.sz3)
  have HZ2 : Hid ((w4.setRow (w.heap.size + 1) (taskA t s')).heap[w.heap.size + 2]? = some (.cells (outA 0 0 0) 71 (0, 0))) := Lib.hid ((row_far (by omega)).trans H4.out.z2)
  clear ho hb
  go_wp2_with (first | (refine store_task rfl _ _ rfl rfl _ t s' rfl rfl _ _ _ H4.out.z1 HO.out.one ?_) | (refine store_out rfl _ _ rfl rfl _ 3 0 x rfl rfl _ _ _ _ HZ2.out ?_) | fail)
  exact (SR.one (k := 3) (v := 0) (c := x) (SR.start H4.out) HO.out).two.ret rfl rfl rfl rfl

def ju3Val (T O : Value) (_g _gt _go : Nat) : Nat → Value
  | 0 => T
  | 1 => O
  | 2 => undef
  | 3 => undef
  | _ => undef

set_option maxRecDepth 100000 in
set_option maxHeartbeats 8000000 in
theorem jumpM (t : TK) (s : Value) (op x : Int) (hx : -2147483648 ≤ x ∧ x ≤ 2147483647) (w : World) (hs : I32V w w.heap.size s t.st) (hn : t.st.length ≤ 100000) :
    Calls Try.prog 95 #[stV t s op x] w (TO w { wentZ t op [] with pc := x } 1 0 0) := by
  obtain ⟨z, hz⟩ : ∃ z, wentZ t op [] = z := ⟨_, rfl⟩
  have HW : Hid (∀ w s2, I32V w w.heap.size s t.st → I32V w w.heap.size s2 [] → Calls Try.prog 117 #[stV t s op x, s2] w (TO w z 1 0 0)) := Lib.hid fun w s2 h1 h2 => by rw [← hz]; exact went_any t s op x s2 [] w h1 h2 hn (by simp)
  obtain ⟨zj, hzj⟩ : ∃ zj : TK, zj = { z with pc := x } := ⟨_, rfl⟩
  rw [hz, ← hzj]
  clear hz
  have HST : Hid (StB w t s op x (((w.alloc (.cells (stateA t s op x) 109)).alloc (.cells (taskA zT nilV) 66)).alloc (.cells (outA 0 0 0) 71))) := Lib.hid (StB.start hs)
  obtain ⟨w3, h3⟩ : ∃ w3, w3 = ((w.alloc (.cells (stateA t s op x) 109)).alloc (.cells (taskA zT nilV) 66)).alloc (.cells (outA 0 0 0) 71) := ⟨_, rfl⟩
  rw [← h3] at HST
  unfold stV stateA
  go_enter Try.func95, Try.ntmps95
  go_upto_region 1 with (fail)
  rw [show Code.wp Try.prog _ _ _ _ = Code.wp Try.prog _ _ _ w3 from by rw [h3]; rfl]
  clear h3 hs
  have hw : IntKind.i64.wrap x = x := IntWalk.i64_in _ (by omega)
  go_wp2_with (first | (refine load_state rfl _ rfl _ _ _ _ _ rfl _ _ HST.out.bx ?_) | fail)
  refine (HW.out _ _ HST.out.st (I32V.nil _ _)).mono ?_
  rintro e w4 ⟨⟨s', rfl, ho⟩, hb⟩
  have H4 := Lib.hid (HST.out.step hb)
  have HO : Hid (Own32 w4 (w.heap.size + 3) s' z.st) := Lib.hid (ho.less HST.out.sz3)
  obtain ⟨A3, m3, k3, rfl⟩ := ho.shape
  clear ho hb
  have HB : Hid (Below w4.heap.size w4 ((w4.alloc (.cells (taskA z (.slice A3 m3 k3)) 66)).alloc (.cells (outA 1 0 0) 71))) := Lib.hid (nextB (below_alloc _ _) (below_alloc _ _))
  have cx := (HB.out.cell (p := ⟨w.heap.size, 13, none⟩) (by show w.heap.size < w4.heap.size; have := H4.out.sz3; omega)).trans H4.out.c13
  unfold taskA outA at cx
  unfold taskV taskA outV outA
  go_upto_region 3 with (fail)
  obtain ⟨w5, h5⟩ : ∃ w5, w5 = (w4.alloc (.cells (taskA zj (.slice A3 m3 k3)) 66)).alloc (.cells (outA 1 0 0) 71) := ⟨_, rfl⟩
  rw [show Code.wp Try.prog _ _ _ _ = Code.wp Try.prog _ _ _ w5 from by rw [h5, hzj]; rfl]
  have HMV : Hid (MvS w w4.heap.size (w4.heap.size + 1) zj (.slice A3 m3 k3) 1 0 0 0 w5) := Lib.hid (by
    have hz4 := H4.out.sz3
    have hb5 : Below w4.heap.size w4 w5 := by rw [h5]; exact nextB (below_alloc _ _) (below_alloc _ _)
    refine ⟨⟨?_, ?_, ?_, nextB H4.out.bl hb5, hz4, by omega⟩, heapLater hb5 (by omega) H4.out.z1, heapLater hb5 (by omega) H4.out.z2⟩
    · rw [h5]; exact heapOld (heapNew rfl)
    · rw [h5]; exact heapNew (by simp)
    · have := HO.out.below hb5; rwa [hzj])
  clear h5 cx HB
  refine Reg.wp_facts_sl [16, 17] rfl [2, 3] [[], [], [(0, 16)], [(1, 17)]] [] (Reg.Known (ju3Val (taskV zj (.slice A3 m3 k3)) (outV 1 0 0) w.heap.size w4.heap.size (w4.heap.size + 1)) (fun _ _ _ => True) []) (MvS w w4.heap.size (w4.heap.size + 1) zj (.slice A3 m3 k3) 1 0 0) (by kernel_rfl) (by kernel_rfl) ?start ?steps ?finish
  case start => exact ⟨HMV.out.1.drew, HMV.out.2⟩
  case steps =>
    refine Reg.Steps.zip ?_ ?_
    · refine Reg.step_go rfl ?_
      intro a wi ki hf hd hS hc K hK
      have f4 : a.tmps.getD 4 undef = .pointer (some ⟨w4.heap.size, 0, none⟩) := hf.same 4 rfl
      clear hf hd
      exact wpTask _ rfl _ _ _ f4 _ _ hS.un.T (hK _ _ (Reg.Known.mk_val rfl rfl) (fun _ _ h => h) hS)
    refine Reg.Steps.zip ?_ ?_
    · refine Reg.step_go rfl ?_
      intro a wi ki hf hd hS hc K hK
      have f5 : a.tmps.getD 5 undef = .pointer (some ⟨(w4.heap.size + 1), 0, none⟩) := hf.same 5 rfl
      clear hf hd
      exact wpOut _ rfl _ _ _ _ f5 _ _ hS.un.O (hK _ _ (Reg.Known.mk_val rfl rfl) (fun _ _ h => h) hS)
    refine Reg.Steps.zip ?_ ?_
    · refine Reg.step_go rfl ?_
      intro a wi ki hf hd hS hc K hK
      have e16 : a.tmps.getD 16 undef = (taskV zj (.slice A3 m3 k3)) := hd.1.plain rfl
      have f2 : a.tmps.getD 2 undef = .pointer (some ⟨(w.heap.size + 1), 0, none⟩) := hf.same 2 rfl
      clear hf hd
      obtain rfl := hc 0 rfl
      exact wpPutTask _ _ rfl _ _ _ f2 e16 _ _ _ hS.2.1 rfl (hK _ _ (Reg.Known.mk_val rfl rfl) (fun _ _ h => Reg.Known.keepX h id) hS.one)
    refine Reg.Steps.zip ?_ ?_
    · refine Reg.step_go rfl ?_
      intro a wi ki hf hd hS hc K hK
      have e17 : a.tmps.getD 17 undef = (outV 1 0 0) := hd.1.plain rfl
      have f3 : a.tmps.getD 3 undef = .pointer (some ⟨(w.heap.size + 2), 0, none⟩) := hf.same 3 rfl
      clear hf hd
      obtain rfl := hc 1 rfl
      exact wpPutOut _ _ rfl _ _ _ _ f3 e17 _ _ _ _ hS.2.2 (hK _ _ (Reg.Known.mk_val rfl rfl) (fun _ _ h => Reg.Known.keepX h id) hS.two)
    exact Reg.Steps.nil
  case finish =>
    intro a w8 hf hd hS
    have f2 : a.tmps.getD 2 undef = .pointer (some ⟨(w.heap.size + 1), 0, none⟩) := hf.same 2 rfl
    have f3 : a.tmps.getD 3 undef = .pointer (some ⟨(w.heap.size + 2), 0, none⟩) := hf.same 3 rfl
    have hd0 : a.defers = [] := hf.defers
    go_wp2_with fail
    exact hS.ret rfl hd0 f2 f3

set_option maxRecDepth 100000 in
set_option maxHeartbeats 8000000 in
theorem jumpZM (t : TK) (s : Value) (op x : Int) (hx : -2147483648 ≤ x ∧ x ≤ 2147483647) (h0 : 0 < t.st.length) (w : World) (hs : I32V w w.heap.size s t.st) (hn : t.st.length ≤ 100000) :
    Calls Try.prog 96 #[stV t s op x] w (TO w (if topZ t.st 0 = 0 then { wentZ t op [] with pc := x } else wentZ t op []) 1 0 0) := by
  obtain ⟨z, hz⟩ : ∃ z, wentZ t op [] = z := ⟨_, rfl⟩
  have HW : Hid (∀ w s2, I32V w w.heap.size s t.st → I32V w w.heap.size s2 [] → Calls Try.prog 117 #[stV t s op x, s2] w (TO w z 1 0 0)) := Lib.hid fun w s2 h1 h2 => by rw [← hz]; exact went_any t s op x s2 [] w h1 h2 hn (by simp)
  obtain ⟨zj, hzj⟩ : ∃ zj : TK, zj = { wentZ t op [] with pc := x } := ⟨_, rfl⟩
  have HJ : Hid (∀ w, I32V w w.heap.size s t.st → Calls Try.prog 95 #[stV t s op x] w (TO w zj 1 0 0)) := Lib.hid fun w h1 => by rw [hzj]; exact jumpM t s op x hx w h1 hn
  obtain ⟨y, hy⟩ : ∃ y, topZ t.st 0 = y := ⟨_, rfl⟩
  have HT : Hid (∀ w, I32V w w.heap.size s t.st → Calls Try.prog 118 #[stV t s op x, .int .i64 0] w fun e w' => e = .returned (.int .i32 y) ∧ Below w.heap.size w w') := Lib.hid fun w h1 => by rw [← hy]; exact fromTop_any t s op x 0 w h1 hn h0
  rw [hy, ← hzj, hz]
  clear hz hzj hy
  by_cases hy0 : y = 0
  · subst hy0
    rw [if_pos rfl]
    have HST : Hid (StB w t s op x (((w.alloc (.cells (stateA t s op x) 109)).alloc (.cells (taskA zT nilV) 66)).alloc (.cells (outA 0 0 0) 71))) := Lib.hid (StB.start hs)
    obtain ⟨w3, h3⟩ : ∃ w3, w3 = ((w.alloc (.cells (stateA t s op x) 109)).alloc (.cells (taskA zT nilV) 66)).alloc (.cells (outA 0 0 0) 71) := ⟨_, rfl⟩
    rw [← h3] at HST
    unfold stV stateA
    go_enter Try.func96, Try.ntmps96
    go_upto_region 1 with (fail)
    rw [show Code.wp Try.prog _ _ _ _ = Code.wp Try.prog _ _ _ w3 from by rw [h3]; rfl]
    clear h3 hs
    go_wp2_with (first | (refine load_state rfl _ rfl _ _ _ _ _ rfl _ _ HST.out.bx ?_) | fail)
    refine (HT.out w3 HST.out.st).mono ?_
    rintro e w4 ⟨rfl, hb⟩
    have HS4 := Lib.hid (HST.out.step hb)
    clear hb HST
    go_wp2_with (first | (refine load_state rfl _ rfl _ _ _ _ _ rfl _ _ HS4.out.bx ?_) | fail)
    refine (HJ.out w4 HS4.out.st).mono ?_
    rintro e w5 ⟨⟨s', rfl, ho⟩, hb⟩
    have H4 := Lib.hid (HS4.out.step hb)
    have HO : Hid (Own32 w5 (w.heap.size + 3) s' zj.st) := Lib.hid (ho.less HS4.out.sz3)
    have HZ2 : Hid ((w5.setRow (w.heap.size + 1) (taskA zj s')).heap[w.heap.size + 2]? = some (.cells (outA 0 0 0) 71 (0, 0))) := Lib.hid ((row_far (by omega)).trans H4.out.z2)
    clear ho hb
    go_wp2_with (first | (refine store_task rfl _ _ rfl rfl _ zj s' rfl rfl _ _ _ H4.out.z1 HO.out.one ?_) | (refine store_out rfl _ _ rfl rfl _ 1 0 0 rfl rfl _ _ _ _ HZ2.out ?_) | fail)
    exact (SR.one (k := 1) (v := 0) (c := 0) (SR.start H4.out) HO.out).two.ret rfl rfl rfl rfl
  · rw [if_neg hy0]
    have e0 : (y == 0) = false := by simpa using hy0
    have HST : Hid (StB w t s op x (((w.alloc (.cells (stateA t s op x) 109)).alloc (.cells (taskA zT nilV) 66)).alloc (.cells (outA 0 0 0) 71))) := Lib.hid (StB.start hs)
    obtain ⟨w3, h3⟩ : ∃ w3, w3 = ((w.alloc (.cells (stateA t s op x) 109)).alloc (.cells (taskA zT nilV) 66)).alloc (.cells (outA 0 0 0) 71) := ⟨_, rfl⟩
    rw [← h3] at HST
    unfold stV stateA
    go_enter Try.func96, Try.ntmps96
    go_upto_region 1 with (fail)
    rw [show Code.wp Try.prog _ _ _ _ = Code.wp Try.prog _ _ _ w3 from by rw [h3]; rfl]
    clear h3 hs
    go_wp2_with (first | (refine load_state rfl _ rfl _ _ _ _ _ rfl _ _ HST.out.bx ?_) | fail)
    refine (HT.out w3 HST.out.st).mono ?_
    rintro e w4 ⟨rfl, hb⟩
    have HS4 := Lib.hid (HST.out.step hb)
    clear hb HST
    go_wp2_with (first | (refine load_state rfl _ rfl _ _ _ _ _ rfl _ _ HS4.out.bx ?_) | fail)
    refine (HW.out _ _ HS4.out.st (I32V.nil _ _)).mono ?_
    rintro e w5 ⟨⟨s', rfl, ho⟩, hb⟩
    have H4 := Lib.hid (HS4.out.step hb)
    have HO : Hid (Own32 w5 (w.heap.size + 3) s' z.st) := Lib.hid (ho.less HS4.out.sz3)
    have HZ2 : Hid ((w5.setRow (w.heap.size + 1) (taskA z s')).heap[w.heap.size + 2]? = some (.cells (outA 0 0 0) 71 (0, 0))) := Lib.hid ((row_far (by omega)).trans H4.out.z2)
    clear ho hb
    go_wp2_with (first | (refine store_task rfl _ _ rfl rfl _ z s' rfl rfl _ _ _ H4.out.z1 HO.out.one ?_) | (refine store_out rfl _ _ rfl rfl _ 1 0 0 rfl rfl _ _ _ _ HZ2.out ?_) | fail)
    exact (SR.one (k := 1) (v := 0) (c := 0) (SR.start H4.out) HO.out).two.ret rfl rfl rfl rfl

end Go.Proofs.Ytjnlgmjcabbaaaa
