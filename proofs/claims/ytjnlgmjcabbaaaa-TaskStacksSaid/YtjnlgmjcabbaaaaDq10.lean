/- The methods of a task's state whose order of evaluation is open, divide and store. (Drawn: gen/s10.py; written by gen/mkdo10.py.) -/
import Derived.Test.YtjnlgmjcabbaaaaDp10
namespace Go.Proofs.Ytjnlgmjcabbaaaa
set_option maxRecDepth 100000
open Go.RowKit

theorem top_mem {l : List Int} {j : Nat} (h : j < l.length) : topZ l j ∈ l := by
  unfold topZ
  rw [List.getD_eq_getElem?_getD, List.getElem?_eq_getElem (by omega)]
  exact List.getElem_mem _

def di1Val (T : Value) (_g : Nat) (y1 y0 q : Int) (nz : Bool) : Nat → Value
  | 0 => T
  | 1 => .int .i32 y1
  | 2 => T
  | 3 => .int .i32 y0
  | 4 => .tuple #[.int .i32 q, .bool nz]
  | 5 => .tuple #[.int .i32 q, .bool nz]
  | 6 => .int .i32 q
  | 7 => .bool nz
  | 8 => .int .i32 q
  | 9 => .bool nz
  | _ => undef


set_option maxRecDepth 100000 in
set_option maxHeartbeats 8000000 in
theorem divideM (t : TK) (s : Value) (op x : Int) (h0 : 1 < t.st.length) (hr : ∀ y ∈ t.st, -2147483648 ≤ y ∧ y ≤ 2147483647) (w : World) (hs : I32V w w.heap.size s t.st) (hn : t.st.length ≤ 100000) :
    Calls Try.prog 94 #[stV t s op x] w (TO w (if topZ t.st 0 = 0 then t else wentZ t op [divZ (topZ t.st 1) (topZ t.st 0)]) (if topZ t.st 0 = 0 then 3 else 1) 0 (if topZ t.st 0 = 0 then 32 else 0)) := by
  have r0 := hr _ (top_mem (j := 0) (by omega))
  have r1 := hr _ (top_mem (j := 1) h0)
  obtain ⟨y0, hy0⟩ : ∃ y, topZ t.st 0 = y := ⟨_, rfl⟩
  have HT0 : Hid (∀ w, I32V w w.heap.size s t.st → Calls Try.prog 118 #[stV t s op x, .int .i64 0] w fun e w' => e = .returned (.int .i32 y0) ∧ Below w.heap.size w w') := Lib.hid fun w h1 => by rw [← hy0]; exact fromTop_any t s op x 0 w h1 hn (by omega)
  obtain ⟨y1, hy1⟩ : ∃ y, topZ t.st 1 = y := ⟨_, rfl⟩
  have HT1 : Hid (∀ w, I32V w w.heap.size s t.st → Calls Try.prog 118 #[stV t s op x, .int .i64 1] w fun e w' => e = .returned (.int .i32 y1) ∧ Below w.heap.size w w') := Lib.hid fun w h1 => by rw [← hy1]; exact fromTop_any t s op x 1 w h1 hn h0
  rw [hy0] at r0
  rw [hy1] at r1
  obtain ⟨q, hq⟩ : ∃ q, divA y1 y0 = q := ⟨_, rfl⟩
  obtain ⟨nz, hnz⟩ : ∃ z, (y0 != 0) = z := ⟨_, rfl⟩
  have HDV : Hid (∀ w, Calls Try.prog 29 #[.int .i32 y1, .int .i32 y0] w fun e w' => e = .returned (.tuple #[.int .i32 q, .bool nz]) ∧ w' = w) := Lib.hid fun w => by rw [← hq, ← hnz]; exact div_any y1 y0 w r1 r0
  obtain ⟨tz, htz⟩ : ∃ tz, (if topZ t.st 0 = 0 then t else wentZ t op [divZ (topZ t.st 1) (topZ t.st 0)]) = tz := ⟨_, rfl⟩
  obtain ⟨kz, hkz⟩ : ∃ k : Int, (if topZ t.st 0 = 0 then 3 else 1) = k := ⟨_, rfl⟩
  obtain ⟨cz, hcz⟩ : ∃ k : Int, (if topZ t.st 0 = 0 then 32 else 0) = k := ⟨_, rfl⟩
  rw [htz, hkz, hcz]
  rw [hy0, hy1] at htz
  rw [hy0] at hkz hcz
  obtain ⟨z, hz⟩ : ∃ z, wentZ t op [q] = z := ⟨_, rfl⟩
  have HW : Hid (∀ w s2, I32V w w.heap.size s t.st → I32V w w.heap.size s2 [q] → Calls Try.prog 117 #[stV t s op x, s2] w (TO w z 1 0 0)) := Lib.hid fun w s2 h1 h2 => by rw [← hz]; exact went_any t s op x s2 [q] w h1 h2 hn (by simp)
  have HY : Hid (nz = true → tz = z ∧ kz = 1 ∧ cz = 0) := Lib.hid (fun h => by
    have h0' : y0 ≠ 0 := by rw [← hnz] at h; simpa using h
    rw [if_neg h0'] at htz hkz hcz
    have hqz : divZ y1 y0 = q := by rw [← hq]; unfold divA; rw [if_neg h0']
    rw [hqz, hz] at htz
    exact ⟨htz.symm, hkz.symm, hcz.symm⟩)
  have HNO : Hid (nz = false → tz = t ∧ kz = 3 ∧ cz = 32) := Lib.hid (fun h => by
    have h0' : y0 = 0 := by rw [← hnz] at h; simpa using h
    rw [if_pos h0'] at htz hkz hcz
    exact ⟨htz.symm, hkz.symm, hcz.symm⟩)
  clear hz htz hkz hcz hq hnz hy0 hy1 r0 r1 hr
  have HST : Hid (StB w t s op x (((w.alloc (.cells (stateA t s op x) 109)).alloc (.cells (taskA zT nilV) 66)).alloc (.cells (outA 0 0 0) 71))) := Lib.hid (StB.start hs)
  obtain ⟨w3, h3⟩ : ∃ w3, w3 = ((w.alloc (.cells (stateA t s op x) 109)).alloc (.cells (taskA zT nilV) 66)).alloc (.cells (outA 0 0 0) 71) := ⟨_, rfl⟩
  rw [← h3] at HST
  unfold stV stateA
  go_enter Try.func94, Try.ntmps94
  go_upto_region 1 with (fail)
  rw [show Code.wp Try.prog _ _ _ _ = Code.wp Try.prog _ _ _ w3 from by rw [h3]; rfl]
  clear h3 hs
  refine Reg.wp_facts_sl [7, 8, 9, 10, 11, 6, 12, 13, 4, 5] rfl [] [[], [(0, 7)], [], [(2, 9)], [(1, 8), (3, 10)], [(4, 11)], [(5, 6)], [(5, 6)], [(6, 12)], [(7, 13)]] [(8, 4), (9, 5)] (Reg.Known (di1Val (stV t s op x) w.heap.size y1 y0 q nz) (fun _ _ _ => True) []) (fun _ w' => StB w t s op x w') (by kernel_rfl) (by kernel_rfl) ?start ?steps ?finish
  case start => exact HST.out.step (Below.refl _ _).drew
  case steps =>
    refine Reg.Steps.zip ?_ ?_
    · refine Reg.step_go rfl ?_
      intro a wi ki hf hd hS hc K hK
      have f1 : a.tmps.getD 1 undef = .pointer (some ⟨w.heap.size, 0, none⟩) := hf.same 1 rfl
      clear hf hd
      exact wpState _ rfl _ _ _ _ _ f1 _ _ hS.bx (hK _ _ (Reg.Known.mk_val rfl rfl) (fun _ _ h => h) hS)
    refine Reg.Steps.zip ?_ ?_
    · refine Reg.step_go rfl ?_
      intro a wi ki hf hd hS hc K hK
      have e7 : a.tmps.getD 7 undef = (stV t s op x) := hd.1.plain rfl
      clear hf hd
      have HS : Hid (St0 w t s op x wi) := Lib.hid hS.toSt0
      have HSS := Lib.hid hS; clear hS
      have hK0 := Lib.hid hK; clear hK hc
      go_simp
      refine (HT1.out wi HS.out.st).mono ?_
      rintro e wA ⟨rfl, hbA⟩
      exact hK0.out _ _ (Reg.Known.mk_val rfl rfl) (fun _ _ h => Reg.Known.keepX h (fun hx => hx)) (HSS.out.step hbA)
    refine Reg.Steps.zip ?_ ?_
    · refine Reg.step_go rfl ?_
      intro a wi ki hf hd hS hc K hK
      have f1 : a.tmps.getD 1 undef = .pointer (some ⟨w.heap.size, 0, none⟩) := hf.same 1 rfl
      clear hf hd
      exact wpState _ rfl _ _ _ _ _ f1 _ _ hS.bx (hK _ _ (Reg.Known.mk_val rfl rfl) (fun _ _ h => h) hS)
    refine Reg.Steps.zip ?_ ?_
    · refine Reg.step_go rfl ?_
      intro a wi ki hf hd hS hc K hK
      have e9 : a.tmps.getD 9 undef = (stV t s op x) := hd.1.plain rfl
      clear hf hd
      have HS : Hid (St0 w t s op x wi) := Lib.hid hS.toSt0
      have HSS := Lib.hid hS; clear hS
      have hK0 := Lib.hid hK; clear hK hc
      go_simp
      refine (HT0.out wi HS.out.st).mono ?_
      rintro e wA ⟨rfl, hbA⟩
      exact hK0.out _ _ (Reg.Known.mk_val rfl rfl) (fun _ _ h => Reg.Known.keepX h (fun hx => hx)) (HSS.out.step hbA)
    refine Reg.Steps.zip ?_ ?_
    · refine Reg.step_go rfl ?_
      intro a wi ki hf hd hS hc K hK
      have e8 : a.tmps.getD 8 undef = .int .i32 y1 := hd.1.plain rfl
      have e10 : a.tmps.getD 10 undef = .int .i32 y0 := hd.2.1.plain rfl
      clear hf hd
      have HS : Hid (St0 w t s op x wi) := Lib.hid hS.toSt0
      have HSS := Lib.hid hS; clear hS
      have hK0 := Lib.hid hK; clear hK hc
      go_simp
      refine (HDV.out wi).mono ?_
      rintro e wA ⟨rfl, rfl⟩
      exact hK0.out _ _ (Reg.Known.mk_val rfl rfl) (fun _ _ h => h) HSS.out
    refine Reg.Steps.zip ?_ ?_
    · refine Reg.step_go rfl ?_
      intro a wi ki hf hd hS hc K hK
      have e11 : a.tmps.getD 11 undef = .tuple #[.int .i32 q, .bool nz] := hd.1.plain rfl
      clear hf hd hc
      have hK0 := Lib.hid hK; clear hK
      have hS0 := Lib.hid hS; clear hS
      go_simp
      exact hK0.out _ _ (Reg.Known.mk_val rfl rfl) (fun _ _ h => h) hS0.out
    refine Reg.Steps.zip ?_ ?_
    · refine Reg.step_go rfl ?_
      intro a wi ki hf hd hS hc K hK
      have e6 : a.tmps.getD 6 undef = .tuple #[.int .i32 q, .bool nz] := hd.1.plain rfl
      clear hf hd hc
      have hK0 := Lib.hid hK; clear hK
      have hS0 := Lib.hid hS; clear hS
      go_simp
      exact hK0.out _ _ (Reg.Known.mk_val rfl rfl) (fun _ _ h => h) hS0.out
    refine Reg.Steps.zip ?_ ?_
    · refine Reg.step_go rfl ?_
      intro a wi ki hf hd hS hc K hK
      have e6 : a.tmps.getD 6 undef = .tuple #[.int .i32 q, .bool nz] := hd.1.plain rfl
      clear hf hd hc
      have hK0 := Lib.hid hK; clear hK
      have hS0 := Lib.hid hS; clear hS
      go_simp
      exact hK0.out _ _ (Reg.Known.mk_val rfl rfl) (fun _ _ h => h) hS0.out
    refine Reg.Steps.zip ?_ ?_
    · refine Reg.step_go rfl ?_
      intro a wi ki hf hd hS hc K hK
      have e12 : a.tmps.getD 12 undef = .int .i32 q := hd.1.plain rfl
      clear hf hd hc
      have hK0 := Lib.hid hK; clear hK
      have hS0 := Lib.hid hS; clear hS
      go_simp
      exact hK0.out _ _ (Reg.Known.mk_val rfl rfl) (fun _ _ h => h) hS0.out
    refine Reg.Steps.zip ?_ ?_
    · refine Reg.step_go rfl ?_
      intro a wi ki hf hd hS hc K hK
      have e13 : a.tmps.getD 13 undef = .bool nz := hd.1.plain rfl
      clear hf hd hc
      have hK0 := Lib.hid hK; clear hK
      have hS0 := Lib.hid hS; clear hS
      go_simp
      exact hK0.out _ _ (Reg.Known.mk_val rfl rfl) (fun _ _ h => h) hS0.out
    exact Reg.Steps.nil
  case finish =>
    intro a w8 hf hd hS
    have HS8 := Lib.hid hS; clear hS
    obtain ⟨u, hu⟩ : ∃ u : Nat → Value, u = fun s => a.tmps.getD s undef := ⟨_, rfl⟩
    have e4 : u 4 = .int .i32 q := by rw [hu]; exact hd.1.plain rfl
    have e5 : u 5 = .bool nz := by rw [hu]; exact hd.2.1.plain rfl
    rw [hf.eq, ← hu]
    clear hf hu hd HST
    simp (config := { maxSteps := 10000000 }) [Reg.filled, e4, e5]
    clear e4 e5
    cases nz with
    | false =>
      obtain ⟨rfl, rfl, rfl⟩ := HNO.out rfl
      go_wp2_with (first | (refine load_state rfl _ rfl _ _ _ _ _ rfl _ _ HS8.out.bx ?_) | fail)
      refine (failed_any tz s op x 32 w8 HS8.out.st hn).mono ?_
      rintro e w4 ⟨⟨s', rfl, ho⟩, hb⟩
      have H4 := Lib.hid (HS8.out.step hb)
      have HO : Hid (Own32 w4 (w.heap.size + 3) s' tz.st) := Lib.hid (ho.less HS8.out.sz3)
      have HZ2 : Hid ((w4.setRow (w.heap.size + 1) (taskA tz s')).heap[w.heap.size + 2]? = some (.cells (outA 0 0 0) 71 (0, 0))) := Lib.hid ((row_far (by omega)).trans H4.out.z2)
      clear ho hb
      go_wp2_with (first | (refine store_task rfl _ _ rfl rfl _ tz s' rfl rfl _ _ _ H4.out.z1 HO.out.one ?_) | (refine store_out rfl _ _ rfl rfl _ 3 0 32 rfl rfl _ _ _ _ HZ2.out ?_) | fail)
      exact (SR.one (k := 3) (v := 0) (c := 32) (SR.start H4.out) HO.out).two.ret rfl rfl rfl rfl
    | true =>
      obtain ⟨rfl, rfl, rfl⟩ := HY.out rfl
      have HA := Lib.hid (HS8.out.step (below_alloc w8 (.cells (i32s [q]).toArray 21)))
      go_wp2_with (first | (refine load_state rfl _ rfl _ _ _ _ _ rfl _ _ HS8.out.bx ?_) | fail)
      refine (HW.out _ _ HA.out.st (I32V.fresh w8 [q])).mono ?_
      rintro e w4 ⟨⟨s', rfl, ho⟩, hb⟩
      have H4 := Lib.hid (HA.out.step hb)
      have HO : Hid (Own32 w4 (w.heap.size + 3) s' tz.st) := Lib.hid (ho.less HA.out.sz3)
      have HZ2 : Hid ((w4.setRow (w.heap.size + 1) (taskA tz s')).heap[w.heap.size + 2]? = some (.cells (outA 0 0 0) 71 (0, 0))) := Lib.hid ((row_far (by omega)).trans H4.out.z2)
      clear ho hb
      go_wp2_with (first | (refine store_task rfl _ _ rfl rfl _ tz s' rfl rfl _ _ _ H4.out.z1 HO.out.one ?_) | (refine store_out rfl _ _ rfl rfl _ 1 0 0 rfl rfl _ _ _ _ HZ2.out ?_) | fail)
      exact (SR.one (k := 1) (v := 0) (c := 0) (SR.start H4.out) HO.out).two.ret rfl rfl rfl rfl

/-- The cells while a local variable is stored into: the task's copy lies in block p. -/
structure Vs (w : World) (t : TK) (s : Value) (op x : Int) (p : Nat) (z : TK) (s' : Value) (w' : World) : Prop extends StB w t s op x w' where
  T : w'.heap[p]? = some (.cells (taskA z s') 66 (0, 0))
  O : w'.heap[p + 1]? = some (.cells (outA 1 0 0) 71 (0, 0))
  ow : Own32 w' (w.heap.size + 3) s' z.st
  lp : w.heap.size + 3 ≤ p
def VsS (w : World) (t : TK) (s : Value) (op x : Int) (p : Nat) (z : TK) (i : Nat) (y : Int) (s' : Value) : Nat → World → Prop
  | 0, w' => Vs w t s op x p z s' w'
  | _, w' => Vs w t s op x p (setVar z i y) s' w'
section
variable {w w' w'' : World} {t z : TK} {s s' : Value} {op x y : Int} {p i n : Nat}
theorem Vs.step (h : Vs w t s op x p z s' w') (hb : Below w'.heap.size w' w'') : Vs w t s op x p z s' w'' :=
  have h1 := (Array.getElem?_eq_some_iff.1 h.T).1; have h2 := (Array.getElem?_eq_some_iff.1 h.O).1
  ⟨h.toStB.step hb, heapLater hb h1 h.T, heapLater hb h2 h.O, h.ow.below hb, h.lp⟩
theorem VsS.step (h : VsS w t s op x p z i y s' n w') (hb : Below w'.heap.size w' w'') : VsS w t s op x p z i y s' n w'' := by
  match n, h with
  | 0, h => exact Vs.step h hb
  | n + 1, h => exact Vs.step h hb
theorem VsS.st (h : VsS w t s op x p z i y s' n w') : St0 w t s op x w' := by
  match n, h with
  | 0, h => exact h.toSt0
  | n + 1, h => exact h.toSt0
theorem VsS.cell (h : VsS w t s op x p z i y s' 0 w') (hi : i < 4) : w'.cell? ⟨p, 4 + i, none⟩ = some (.int .i32 (varZ z i)) := by
  rw [cell_blk h.T]
  rcases (by omega : i = 0 ∨ i = 1 ∨ i = 2 ∨ i = 3) with rfl | rfl | rfl | rfl <;> rfl
theorem VsS.frozen (h : VsS w t s op x p z i y s' 0 w') (j : Nat) : w'.frozen? ⟨p, 4 + j, none⟩ = false := frozen_blk h.T _
theorem VsS.store (h : VsS w t s op x p z i y s' 0 w') (hi : i < 4) : VsS w t s op x p z i y s' 1 (w'.setCell ⟨p, 4 + i, none⟩ (.int .i32 y)) := by
  have hlp := h.lp
  refine ⟨⟨⟨(cell_far (by omega)).trans h.bx, h.lie.below (cell_below (by omega) _), h.bl.trans (cell_below (by omega) _), by have := h.sz; simpa [World.setCell] using this⟩, (cell_far (by omega)).trans h.z1, (cell_far (by omega)).trans h.z2, by have := h.sz3; simpa [World.setCell] using this⟩, ?_, (cell_far (by omega)).trans h.O, ?_, hlp⟩
  · rw [set_blk h.T, setVar_at _ _ _ _ hi]
  · rw [setVar_st]; exact h.ow.apart h.T (by decide)
end

def vs2Val (T : Value) (g gt i : Nat) (y : Int) : Nat → Value
  | 0 => .pointer (some ⟨g, 12, none⟩)
  | 1 => .pointer (some ⟨g, 13, none⟩)
  | 2 => .int .i32 i
  | 3 => T
  | 4 => .int .i32 y
  | 5 => .pointer (some ⟨gt, 4, none⟩)
  | 6 => .pointer (some ⟨gt, 4 + i, none⟩)
  | 7 => undef
  | _ => undef


def st3Val (T O : Value) (_g _gt _go : Nat) : Nat → Value
  | 0 => T
  | 1 => O
  | 2 => undef
  | 3 => undef
  | _ => undef


set_option maxRecDepth 100000 in
set_option maxHeartbeats 8000000 in
theorem storeM (t : TK) (s : Value) (op x : Int) (i : Nat) (hi : i < 4) (hx : x = i) (h0 : 0 < t.st.length) (w : World) (hs : I32V w w.heap.size s t.st) (hn : t.st.length ≤ 100000) :
    Calls Try.prog 98 #[stV t s op x] w (TO w (setVar (wentZ t op []) i (topZ t.st 0)) 1 0 0) := by
  obtain ⟨y, hy⟩ : ∃ y, topZ t.st 0 = y := ⟨_, rfl⟩
  have HT0 : Hid (∀ w, I32V w w.heap.size s t.st → Calls Try.prog 118 #[stV t s op x, .int .i64 0] w fun e w' => e = .returned (.int .i32 y) ∧ Below w.heap.size w w') := Lib.hid fun w h1 => by rw [← hy]; exact fromTop_any t s op x 0 w h1 hn h0
  rw [hy]
  obtain ⟨z, hz⟩ : ∃ z, wentZ t op [] = z := ⟨_, rfl⟩
  have HW : Hid (∀ w s2, I32V w w.heap.size s t.st → I32V w w.heap.size s2 [] → Calls Try.prog 117 #[stV t s op x, s2] w (TO w z 1 0 0)) := Lib.hid fun w s2 h1 h2 => by rw [← hz]; exact went_any t s op x s2 [] w h1 h2 hn (by simp)
  rw [hz]
  have HI4 := Lib.hid hi
  have HX := Lib.hid hx
  clear hz hy hi hx
  have HST : Hid (StB w t s op x (((w.alloc (.cells (stateA t s op x) 109)).alloc (.cells (taskA zT nilV) 66)).alloc (.cells (outA 0 0 0) 71))) := Lib.hid (StB.start hs)
  obtain ⟨w3, h3⟩ : ∃ w3, w3 = ((w.alloc (.cells (stateA t s op x) 109)).alloc (.cells (taskA zT nilV) 66)).alloc (.cells (outA 0 0 0) 71) := ⟨_, rfl⟩
  rw [← h3] at HST
  unfold stV stateA
  go_enter Try.func98, Try.ntmps98
  go_upto_region 1 with (fail)
  rw [show Code.wp Try.prog _ _ _ _ = Code.wp Try.prog _ _ _ w3 from by rw [h3]; rfl]
  clear h3 hs
  go_wp2_with (first | (refine load_state rfl _ rfl _ _ _ _ _ rfl _ _ HST.out.bx ?_) | fail)
  refine (HW.out _ _ HST.out.st (I32V.nil _ _)).mono ?_
  rintro e w4 ⟨⟨s', rfl, ho⟩, hb⟩
  have H4 := Lib.hid (HST.out.step hb)
  have HO : Hid (Own32 w4 (w.heap.size + 3) s' z.st) := Lib.hid (ho.less HST.out.sz3)
  obtain ⟨A3, m3, k3, rfl⟩ := ho.shape
  clear ho hb
  unfold taskV taskA outV outA
  go_upto_region 2 with (fail)
  obtain ⟨w5, h5⟩ : ∃ w5, w5 = (w4.alloc (.cells (taskA z (.slice A3 m3 k3)) 66)).alloc (.cells (outA 1 0 0) 71) := ⟨_, rfl⟩
  rw [show Code.wp Try.prog _ _ _ _ = Code.wp Try.prog _ _ _ w5 from by rw [h5]; rfl]
  have HVS : Hid (Vs w t s op x w4.heap.size z (.slice A3 m3 k3) w5) := Lib.hid (by
    have hb5 : Below w4.heap.size w4 w5 := by rw [h5]; exact nextB (below_alloc _ _) (below_alloc _ _)
    refine ⟨H4.out.step hb5, ?_, ?_, HO.out.below hb5, H4.out.sz3⟩
    · rw [h5]; exact heapOld (heapNew rfl)
    · rw [h5]; exact heapNew (by simp))
  clear h5
  refine Reg.wp_facts_sl [11, 12, 13, 14, 15, 16, 17] rfl [7] [[], [(0, 11)], [(1, 12)], [], [(3, 14)], [], [(5, 16), (2, 13)], [(6, 17), (4, 15)]] [] (Reg.Known (vs2Val (stV t s op x) w.heap.size w4.heap.size i y) (fun _ _ _ => True) []) (VsS w t s op x w4.heap.size z i y (.slice A3 m3 k3)) (by kernel_rfl) (by kernel_rfl) ?start ?steps ?finish
  case start => exact HVS.out.step (Below.refl _ _).drew
  case steps =>
    refine Reg.Steps.zip ?_ ?_
    · refine Reg.step_go rfl ?_
      intro a wi ki hf hd hS hc K hK
      have f1 : a.tmps.getD 1 undef = .pointer (some ⟨w.heap.size, 0, none⟩) := hf.same 1 rfl
      clear hf hd hc
      have hK0 := Lib.hid hK; clear hK
      have hS0 := Lib.hid hS; clear hS
      go_simp
      exact hK0.out _ _ (Reg.Known.mk_val rfl rfl) (fun _ _ h => h) hS0.out
    refine Reg.Steps.zip ?_ ?_
    · refine Reg.step_go rfl ?_
      intro a wi ki hf hd hS hc K hK
      have e11 : a.tmps.getD 11 undef = .pointer (some ⟨w.heap.size, 12, none⟩) := hd.1.plain rfl
      clear hf hd hc
      have hK0 := Lib.hid hK; clear hK
      have hS0 := Lib.hid hS; clear hS
      go_simp
      exact hK0.out _ _ (Reg.Known.mk_val rfl rfl) (fun _ _ h => h) hS0.out
    refine Reg.Steps.zip ?_ ?_
    · refine Reg.step_go rfl ?_
      intro a wi ki hf hd hS hc K hK
      have e12 : a.tmps.getD 12 undef = .pointer (some ⟨w.heap.size, 13, none⟩) := hd.1.plain rfl
      clear hf hd hc
      have cc := hS.st.c13
      rw [HX.out] at cc
      have hK0 := Lib.hid hK; clear hK
      have hS0 := Lib.hid hS; clear hS
      go_simp
      exact hK0.out _ _ (Reg.Known.mk_val rfl rfl) (fun _ _ h => h) hS0.out
    refine Reg.Steps.zip ?_ ?_
    · refine Reg.step_go rfl ?_
      intro a wi ki hf hd hS hc K hK
      have f1 : a.tmps.getD 1 undef = .pointer (some ⟨w.heap.size, 0, none⟩) := hf.same 1 rfl
      clear hf hd
      exact wpState _ rfl _ _ _ _ _ f1 _ _ hS.st.bx (hK _ _ (Reg.Known.mk_val rfl rfl) (fun _ _ h => h) hS)
    refine Reg.Steps.zip ?_ ?_
    · refine Reg.step_go rfl ?_
      intro a wi ki hf hd hS hc K hK
      have e14 : a.tmps.getD 14 undef = (stV t s op x) := hd.1.plain rfl
      clear hf hd
      have HS : Hid (St0 w t s op x wi) := Lib.hid hS.st
      have HSS := Lib.hid hS; clear hS
      have hK0 := Lib.hid hK; clear hK hc
      go_simp
      refine (HT0.out wi HS.out.st).mono ?_
      rintro e wA ⟨rfl, hbA⟩
      exact hK0.out _ _ (Reg.Known.mk_val rfl rfl) (fun _ _ h => Reg.Known.keepX h (fun hx => hx)) (HSS.out.step hbA)
    refine Reg.Steps.zip ?_ ?_
    · refine Reg.step_go rfl ?_
      intro a wi ki hf hd hS hc K hK
      have f4 : a.tmps.getD 4 undef = .pointer (some ⟨w4.heap.size, 0, none⟩) := hf.same 4 rfl
      clear hf hd hc
      have hK0 := Lib.hid hK; clear hK
      have hS0 := Lib.hid hS; clear hS
      go_simp
      exact hK0.out _ _ (Reg.Known.mk_val rfl rfl) (fun _ _ h => h) hS0.out
    refine Reg.Steps.zip ?_ ?_
    · refine Reg.step_go rfl ?_
      intro a wi ki hf hd hS hc K hK
      have e16 : a.tmps.getD 16 undef = .pointer (some ⟨w4.heap.size, 4, none⟩) := hd.1.plain rfl
      have e13 : a.tmps.getD 13 undef = .int .i32 i := hd.2.1.plain rfl
      clear hf hd hc
      have hi4 : (i : Int) < 4 := by have := HI4.out; omega
      have hK0 := Lib.hid hK; clear hK
      have hS0 := Lib.hid hS; clear hS
      go_simp
      exact hK0.out _ _ (Reg.Known.mk_val rfl rfl) (fun _ _ h => h) hS0.out
    refine Reg.Steps.zip ?_ ?_
    · refine Reg.step_go rfl ?_
      intro a wi ki hf hd hS hc K hK
      have e17 : a.tmps.getD 17 undef = .pointer (some ⟨w4.heap.size, 4 + i, none⟩) := hd.1.plain rfl
      have e15 : a.tmps.getD 15 undef = .int .i32 y := hd.2.1.plain rfl
      clear hf hd
      obtain rfl := hc 0 rfl
      have cc := hS.cell HI4.out
      have cf := hS.frozen i
      have HS := Lib.hid hS; clear hS
      have hK0 := Lib.hid hK; clear hK hc
      go_simp
      exact hK0.out undef _ (Reg.Known.mk_val rfl rfl) (fun _ _ h => Reg.Known.keepX h id) (HS.out.store HI4.out)
    exact Reg.Steps.nil
  case finish =>
    intro a w6 hf hd hS
    obtain ⟨u, hu⟩ : ∃ u : Nat → Value, u = fun s => a.tmps.getD s undef := ⟨_, rfl⟩
    rw [hf.eq, ← hu]
    clear hf hu hd HST HVS
    simp (config := { maxSteps := 10000000 }) [Reg.filled]
    have HMV : Hid (MvS w w4.heap.size (w4.heap.size + 1) (setVar z i y) (.slice A3 m3 k3) 1 0 0 0 w6) := Lib.hid
      ⟨⟨hS.T, hS.O, hS.ow, hS.bl, hS.lp, by have := hS.lp; omega⟩, hS.z1, hS.z2⟩
    clear hS
    go_upto_region 3 with (fail)
    refine Reg.wp_facts_sl [18, 19] rfl [2, 3] [[], [], [(0, 18)], [(1, 19)]] [] (Reg.Known (st3Val (taskV (setVar z i y) (.slice A3 m3 k3)) (outV 1 0 0) w.heap.size w4.heap.size (w4.heap.size + 1)) (fun _ _ _ => True) []) (MvS w w4.heap.size (w4.heap.size + 1) (setVar z i y) (.slice A3 m3 k3) 1 0 0) (by kernel_rfl) (by kernel_rfl) ?start ?steps ?finish
    case start => exact ⟨HMV.out.1.drew, HMV.out.2⟩
    case steps =>
      refine Reg.Steps.zip ?_ ?_
      · refine Reg.step_go rfl ?_
        intro a wi ki hf hd hS hc K hK
        have f4 : a.tmps.getD 4 undef = .pointer (some ⟨w4.heap.size, 0, none⟩) := hf.same 4 rfl
        clear hf hd
        exact wpTask _ rfl _ _ _ f4 _ _ hS.un.T (hK _ _ (Reg.Known.mk_val rfl rfl) (fun _ _ h => h) hS)
      refine Reg.Steps.zip ?_ ?_
      · refine Reg.step_go rfl ?_
        intro a wi ki hf hd hS hc K hK
        have f5 : a.tmps.getD 5 undef = .pointer (some ⟨(w4.heap.size + 1), 0, none⟩) := hf.same 5 rfl
        clear hf hd
        exact wpOut _ rfl _ _ _ _ f5 _ _ hS.un.O (hK _ _ (Reg.Known.mk_val rfl rfl) (fun _ _ h => h) hS)
      refine Reg.Steps.zip ?_ ?_
      · refine Reg.step_go rfl ?_
        intro a wi ki hf hd hS hc K hK
        have e18 : a.tmps.getD 18 undef = (taskV (setVar z i y) (.slice A3 m3 k3)) := hd.1.plain rfl
        have f2 : a.tmps.getD 2 undef = .pointer (some ⟨(w.heap.size + 1), 0, none⟩) := hf.same 2 rfl
        clear hf hd
        obtain rfl := hc 0 rfl
        exact wpPutTask _ _ rfl _ _ _ f2 e18 _ _ _ hS.2.1 rfl (hK _ _ (Reg.Known.mk_val rfl rfl) (fun _ _ h => Reg.Known.keepX h id) hS.one)
      refine Reg.Steps.zip ?_ ?_
      · refine Reg.step_go rfl ?_
        intro a wi ki hf hd hS hc K hK
        have e19 : a.tmps.getD 19 undef = (outV 1 0 0) := hd.1.plain rfl
        have f3 : a.tmps.getD 3 undef = .pointer (some ⟨(w.heap.size + 2), 0, none⟩) := hf.same 3 rfl
        clear hf hd
        obtain rfl := hc 1 rfl
        exact wpPutOut _ _ rfl _ _ _ _ f3 e19 _ _ _ _ hS.2.2 (hK _ _ (Reg.Known.mk_val rfl rfl) (fun _ _ h => Reg.Known.keepX h id) hS.two)
      exact Reg.Steps.nil
    case finish =>
      intro a w8 hf hd hS
      have f2 : a.tmps.getD 2 undef = .pointer (some ⟨(w.heap.size + 1), 0, none⟩) := hf.same 2 rfl
      have f3 : a.tmps.getD 3 undef = .pointer (some ⟨(w.heap.size + 2), 0, none⟩) := hf.same 3 rfl
      have hd0 : a.defers = [] := hf.defers
      go_wp2_with fail
      exact hS.ret rfl hd0 f2 f3

end Go.Proofs.Ytjnlgmjcabbaaaa
