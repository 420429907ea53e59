/- Package ring: New, leaveBottom, leaveTop, remove, Pop, Steal. -/
import Derived.Test.YtlmbjnegajiphaaRgp15
namespace Go.Proofs.Ytlmbjnegajiphaa
set_option maxRecDepth 100000
open Go.RowKit

theorem ret_task_bool {fn : Func} {R : Ending → World → Prop} {a : Act} {w : World} {p q g t : Nat} {u : TK} {s : Value} {b : Bool} {fr : Nat × Nat} (h : fn.results = #[.cell p 51, .tmp q]) (hd : a.defers = [])
    (hp : a.tmps.getD p undef = .pointer (some ⟨g, 0, none⟩)) (hq : a.tmps.getD q undef = .bool b) (hg : w.heap[g]? = some (.cells (taskA u s) t fr))
    (hR : R (.returned (.tuple #[taskV u s, .bool b])) w) : bodyPost Try.prog fn R .ret a w := by
  refine bodyPost_ret ?_ hd hR
  have hp' : a.tmps[p]?.getD undef = .pointer (some ⟨g, 0, none⟩) := by simpa using hp
  have hq' : a.tmps[q]?.getD undef = .bool b := by simpa using hq
  simp [results, h, hp', hq', asAddr, Result.andThen, load_task w g t u s fr hg]
theorem RgK.after {w w' : World} {K : Nat → Prop} {a sb R top cnt top' cnt' i : Nat} {C : Nat → SlotX} (h : RgK w K a sb R top cnt C) (hf : Frm (fun j => j = a ∨ j = sb) w w') (hb : RgB w' a sb R top' cnt')
    (hs : w'.heap[sb]? = some (.cells (rowE slotA ((List.range R).map (upd C i zSlot))).toArray 51 (0, 0))) (ht : top' < R) (hc : cnt' ≤ R) : RgK w' K a sb R top' cnt' (upd C i zSlot) := by
  refine ⟨hb, hs, fun k hk => ?_, h.r1, ht, hc, h.ne, h.nk, fun j hj => Nat.lt_of_lt_of_le (h.lt j hj) hf.size⟩
  by_cases e : k = i
  · subst e; rw [upd_self]; exact ⟨StkV.zero _ _, Nat.zero_le _⟩
  · rw [upd_ne C _ e]
    exact ⟨(h.st k hk).1.keep hf (fun j hj e => by rcases e with rfl | rfl; exact h.nk.1 hj; exact h.nk.2 hj) (fun _ _ e => e) h.lt, (h.st k hk).2⟩
/-- What remove answers and leaves. -/
def RgRm (w : World) (K : Nat → Prop) (a sb R cnt i top' : Nat) (C : Nat → SlotX) (e : Ending) (w' : World) : Prop :=
  e = .returned (.tuple #[taskV (C i).1 (C i).2, .bool true]) ∧ RgK w' K a sb R top' (cnt - 1) (upd C i zSlot) ∧ StkV w' K (C i) ∧ Frm (fun j => j = a ∨ j = sb) w w'
def RgNo (w : World) (e : Ending) (w' : World) : Prop := e = .returned (.tuple #[taskV zT nilV, .bool false]) ∧ Below w.heap.size w w'

set_option maxRecDepth 100000 in
set_option maxHeartbeats 8000000 in
theorem rgRemove_no {w : World} {a sb R top : Nat} (h : RgB w a sb R top 0) (fv : Value) (hfv : ∃ f x y, fv = .func f x y) :
    Calls Try.prog 75 #[.pointer (some ⟨a, 0, none⟩), fv] w (RgNo w) := by
  obtain ⟨f, x, y, rfl⟩ := hfv
  have c2 : w.cell? ⟨a, 2, none⟩ = some (.int .i64 0) := cell_blk h 2
  have hla := (Array.getElem?_eq_some_iff.1 h).1
  have HZ : Hid ((w.alloc (.cells (taskA zT nilV) 51)).heap[w.heap.size]? = some (.cells (taskA zT nilV) 51 (0, 0))) := Lib.hid (heap_alloc_new w _)
  clear h
  go_enter Try.func75, Try.ntmps75
  go_wp2_with (first | (refine store_task rfl _ _ rfl rfl _ zT nilV rfl rfl _ _ _ HZ.out rfl ?_) | fail)
  exact ret_task_bool (u := zT) (s := nilV) rfl rfl rfl rfl (row_at HZ.out _) ⟨rfl, (below_alloc w _).trans (row_below (Nat.le_refl _))⟩

set_option maxRecDepth 100000 in
set_option maxHeartbeats 8000000 in
theorem rgRemove_any {w : World} {K : Nat → Prop} {ga sb R top cnt i top' : Nat} {C : Nat → SlotX} (kf : FuncId) (hkf : ∀ xs w, (callFunc kf xs).run Try.prog w = .ok (.enter kf xs) w) (h : RgK w K ga sb R top cnt C) (hc : 0 < cnt) (hi : i < R) (ht : top' < R)
    (HL : ∀ w', RgB w' ga sb R top cnt → Calls Try.prog kf #[.pointer (some ⟨ga, 0, none⟩)] w' fun e w'' => e = .returned (.int .i64 i) ∧ RgB w'' ga sb R top' cnt ∧ Frm (fun j => j = ga) w' w'') :
    Calls Try.prog 75 #[.pointer (some ⟨ga, 0, none⟩), .func (.func kf) #[.pointer (some ⟨ga, 0, none⟩)] #[]] w (RgRm w K ga sb R cnt i top' C) := by
  have H := Lib.hid h
  have hla := h.lts ga (.inr (.inl rfl))
  have hls := h.lts sb (.inr (.inr rfl))
  have hne := h.ne
  have hct := h.ct
  have hR := h.r1
  obtain ⟨w1, hw1⟩ : ∃ w1, w1 = w.alloc (.cells (taskA zT nilV) 51) := ⟨_, rfl⟩
  have B1 : Hid (Below w.heap.size w w1) := Lib.hid (by rw [hw1]; exact below_alloc w _)
  have HZ1 : Hid (w1.heap[w.heap.size]? = some (.cells (taskA zT nilV) 51 (0, 0))) := Lib.hid (by rw [hw1]; exact heap_alloc_new w _)
  have c2 : w.cell? ⟨ga, 2, none⟩ = some (.int .i64 cnt) := cell_blk h.blk 2
  have HLV := Lib.hid (HL w1 ((B1.out.block ga hla).trans h.blk))
  have hsz1 : w1.heap.size = w.heap.size + 1 := by rw [hw1]; simp
  have z0 : ((cnt : Int) == 0) = false := by simp; omega
  have HW1 := Lib.hid hw1
  clear h HL hw1
  go_enter Try.func75, Try.ntmps75
  go_wp2_with fail
  rw [show w.alloc (.cells #[.int .i32 0, .int .i64 0, .int .i64 0, .slice none 0 0, .int .i32 0, .int .i32 0, .int .i32 0, .int .i32 0, .int .i64 0, .int .i64 0, .int .u32 0, .int .i64 0] 51) = w1 from HW1.out.symm]
  go_wp2_with fail
  refine HLV.out.mono ?_
  rintro e w2 ⟨rfl, hb2, hf2⟩
  have HB2 := Lib.hid hb2
  have hsl : w2.heap[sb]? = some (.cells (rowE slotA ((List.range R).map C)).toArray 51 (0, 0)) := (hf2.block sb (by omega) (Ne.symm hne)).trans ((B1.out.block sb hls).trans H.out.slo)
  have HSL := Lib.hid hsl
  have HZ2 : Hid (w2.heap[w.heap.size]? = some (.cells (taskA zT nilV) 51 (0, 0))) := Lib.hid ((hf2.block _ (by omega) (by omega)).trans HZ1.out)
  have HF2 : Hid (Frm (fun j => j = ga ∨ j = sb) w w2) := Lib.hid ((Frm.of_below B1.out).trans hf2 fun _ _ e => .inl e)
  have hsz2 : w.heap.size + 1 ≤ w2.heap.size := by have := hf2.size; omega
  have hx : ((List.range R).map C)[i]? = some (C i) := by simp [hi]
  have HRG : Hid (w2.rangeAt sb (i * 12) (slotA (C i)).toList) := Lib.hid fun j u hu => by
    have h1 := rowE_get slotA_size hx (j := j) (u := u) (by simpa using hu)
    rw [cell_blk hsl]; simpa using h1
  have HSTK := Lib.hid (H.out.st i hi).1
  obtain ⟨t, hct1⟩ : ∃ t, (C i).1 = t := ⟨_, rfl⟩
  obtain ⟨s, hcs1⟩ : ∃ s, (C i).2 = s := ⟨_, rfl⟩
  have HFIN := Lib.hid (fun w9 hb hs hf => H.out.after (w' := w9) (top' := top') (cnt' := cnt - 1) (i := i) hf hb hs ht (by omega))
  have HST9 := Lib.hid (fun (w9 : World) (hf : Frm (fun j => j = ga ∨ j = sb) w w9) => (HSTK.out.keep hf (S' := K) (fun j hj e => by rcases e with rfl | rfl; exact H.out.nk.1 hj; exact H.out.nk.2 hj) (fun _ _ e => e) H.out.lt))
  have HLTS := Lib.hid H.out.lts
  have hone : s.oneCell' = true := by rw [← hcs1]; exact HSTK.out.v.one
  obtain ⟨As, ns, cs, hs0⟩ : ∃ A n c, s = .slice A n c := by rw [← hcs1]; obtain ⟨A, c, e, _⟩ := HSTK.out.v; exact ⟨A, _, c, e⟩
  have hSA : slotA (C i) = taskA t s := by unfold slotA; rw [hct1, hcs1]
  rw [hSA] at HRG
  have HPOST : Hid (∀ w9, RgB w9 ga sb R top' (cnt - 1) → w9.heap[sb]? = some (.cells (rowE slotA ((List.range R).map (upd C i zSlot))).toArray 51 (0, 0)) → Frm (fun j => j = ga ∨ j = sb) w w9 → RgRm w K ga sb R cnt i top' C (.returned (.tuple #[taskV t s, .bool true])) w9) := Lib.hid fun w9 hb hs hf => by
    refine ⟨by rw [hct1, hcs1], HFIN.out w9 hb hs hf, HST9.out w9 hf, hf⟩
  subst hs0
  clear hct1 hcs1 hsl hx hSA HFIN HST9 HSTK HLTS hb2 hf2 HLV c2 HW1
  have HZ7 : Hid ((w2.alloc (.cells (taskA zT nilV) 51)).heap[w2.heap.size]? = some (.cells (taskA zT nilV) 51 (0, 0))) := Lib.hid (heap_alloc_new w2 _)
  obtain ⟨w7, hw7⟩ : ∃ w7, w7 = (w2.alloc (.cells #[.int .i32 0, .int .i64 0, .int .i64 0, .slice none 0 0, .int .i32 0, .int .i32 0, .int .i32 0, .int .i32 0, .int .i64 0, .int .i64 0, .int .u32 0, .int .i64 0] 51)).setRow w2.heap.size (taskA t (.slice As ns cs)) := ⟨_, rfl⟩
  have HT7 : Hid (w7.heap[w2.heap.size]? = some (.cells (taskA t (.slice As ns cs)) 51 (0, 0))) := Lib.hid (by rw [hw7]; exact row_at HZ7.out _)
  have HB7 : Hid (Below w2.heap.size w2 w7) := Lib.hid (by rw [hw7]; exact (below_alloc w2 _).trans (row_below (Nat.le_refl _)))
  have hsb2 : sb < w2.heap.size := by omega
  have HS7 : Hid (w7.heap[sb]? = some (.cells (rowE slotA ((List.range R).map C)).toArray 51 (0, 0))) := Lib.hid (heapLater HB7.out hsb2 HSL.out)
  have HA7 : Hid (RgB w7 ga sb R top' cnt) := Lib.hid (heapLater HB7.out (by omega) HB2.out)
  have HZZ7 : Hid (w7.heap[w.heap.size]? = some (.cells (taskA zT nilV) 51 (0, 0))) := Lib.hid (heapLater HB7.out (by omega) HZ2.out)
  obtain ⟨w8, hw8⟩ : ∃ w8, w8 = w7.setRow sb ((rowE slotA ((List.range R).map C)).toArray.toList.take (i * 12) ++ (taskA zT nilV).toList ++ (rowE slotA ((List.range R).map C)).toArray.toList.drop (i * 12 + (taskA zT nilV).size)).toArray := ⟨_, rfl⟩
  have HS8 : Hid (w8.heap[sb]? = some (.cells (rowE slotA ((List.range R).map (upd C i zSlot))).toArray 51 (0, 0))) := Lib.hid (by
    rw [hw8, row_at HS7.out]
    congr 2
    rw [List.toList_toArray]
    exact congrArg List.toArray (slots_set C hi zSlot))
  have HF8 : Hid (Frm (fun j => j = sb) w7 w8) := Lib.hid (by rw [hw8]; exact ⟨rfl, rfl, rfl, by simp [World.setRow], fun k _ hk => row_far hk⟩)
  have h78 : w7.heap.size ≤ w8.heap.size := HF8.out.size
  have h27 : w2.heap.size < w7.heap.size := (Array.getElem?_eq_some_iff.1 HT7.out).1
  have HA8 : Hid (RgB w8 ga sb R top' cnt) := Lib.hid ((HF8.out.block ga (by omega) hne).trans HA7.out)
  have HT8 : Hid (w8.heap[w2.heap.size]? = some (.cells (taskA t (.slice As ns cs)) 51 (0, 0))) := Lib.hid ((HF8.out.block _ h27 (by omega)).trans HT7.out)
  have HZ8 : Hid (w8.heap[w.heap.size]? = some (.cells (taskA zT nilV) 51 (0, 0))) := Lib.hid ((HF8.out.block _ (by omega) (by omega)).trans HZZ7.out)
  have HT9 : Hid ((w8.setCell ⟨ga, 2, none⟩ (.int .i64 ((cnt : Int) - 1))).heap[w2.heap.size]? = some (.cells (taskA t (.slice As ns cs)) 51 (0, 0))) := Lib.hid ((cell_far (by omega)).trans HT8.out)
  have HZ9 : Hid ((w8.setCell ⟨ga, 2, none⟩ (.int .i64 ((cnt : Int) - 1))).heap[w.heap.size]? = some (.cells (taskA zT nilV) 51 (0, 0))) := Lib.hid ((cell_far (by omega)).trans HZ8.out)
  have HEND : Hid (RgRm w K ga sb R cnt i top' C (.returned (.tuple #[taskV t (.slice As ns cs), .bool true])) ((w8.setCell ⟨ga, 2, none⟩ (.int .i64 ((cnt : Int) - 1))).setRow w.heap.size (taskA t (.slice As ns cs)))) := Lib.hid (HPOST.out _ (by
      unfold RgB
      rw [row_far (by omega), set_blk HA8.out 2 _]
      simp; omega) ((row_far (by omega)).trans ((cell_far (Ne.symm hne)).trans HS8.out)) (by
      have f1 : Frm (fun j => j = ga ∨ j = sb) w w7 := HF2.out.then (Frm.of_below HB7.out)
      have f2 : Frm (fun j => j = ga ∨ j = sb) w w8 := f1.trans HF8.out fun _ _ e => .inr e
      have f3 : Frm (fun j => j = ga ∨ j = sb) w (w8.setCell ⟨ga, 2, none⟩ (.int .i64 ((cnt : Int) - 1))) := f2.then (Frm.setCell (p := ⟨ga, 2, none⟩) (.inl rfl) _)
      have hb : Below w.heap.size (w8.setCell ⟨ga, 2, none⟩ (.int .i64 ((cnt : Int) - 1))) ((w8.setCell ⟨ga, 2, none⟩ (.int .i64 ((cnt : Int) - 1))).setRow w.heap.size (taskA t (.slice As ns cs))) := row_below (Nat.le_refl _)
      exact ⟨hb.os.trans f3.os, hb.tape.trans f3.tape, hb.output.trans f3.output, Nat.le_trans f3.size hb.size, fun k hk hn => (hb.block k hk).trans (f3.block k hk hn)⟩))
  have a0 := cell_blk HB2.out 0
  have a7 := cell_blk HA7.out 0
  have a8 := cell_blk HA8.out 2
  have f8 := frozen_blk HA8.out 2
  have HW7 := Lib.hid hw7; have HW8 := Lib.hid hw8
  have i1 : (0 : Int) ≤ (i : Int) ∧ (i : Int) < R := by omega
  have HFIT : Hid (i * 12 + (taskA zT nilV).size ≤ (rowE slotA ((List.range R).map C)).toArray.size) := Lib.hid (by show i * 12 + 12 ≤ (rowE slotA ((List.range R).map C)).toArray.size; rw [List.size_toArray, rowE_slots]; omega)
  clear hw7 hw8 HPOST H
  go_wp2_with (first | (refine load_taskMid rfl _ rfl sb (i * 12) t (.slice As ns cs) rfl HRG.out ?_) | (refine store_task rfl _ _ rfl rfl w2.heap.size t (.slice As ns cs) rfl rfl _ _ _ HZ7.out rfl ?_; rw [← HW7.out]) | (refine wpList_store_at rfl 51 _ _ rfl sb (i * 12) (taskA zT nilV) rfl rfl _ _ HS7.out info_task HFIT.out (task_ones rfl) ?_; rw [← HW8.out]) | (refine load_taskAt rfl _ rfl w2.heap.size t (.slice As ns cs) rfl _ _ HT9.out ?_) | (refine store_task rfl _ _ rfl rfl w.heap.size t (.slice As ns cs) rfl rfl _ _ _ HZ9.out rfl ?_) | fail)
  exact ret_task_bool (u := t) (s := .slice As ns cs) rfl rfl rfl rfl (row_at HZ9.out _) HEND.out

set_option maxHeartbeats 2000000 in
theorem rgBottom_any {w : World} {ga sb R top cnt : Nat} (h : RgB w ga sb R top cnt) (hR : 1 ≤ R ∧ R ≤ 64 ∧ top < R) (hc : 0 < cnt) (hc2 : cnt ≤ 64) :
    Calls Try.prog 76 #[.pointer (some ⟨ga, 0, none⟩)] w fun e w' => e = .returned (.int .i64 ((top + (cnt - 1)) % R : Nat)) ∧ RgB w' ga sb R top cnt ∧ Frm (fun j => j = ga) w w' := by
  have c2 := cell_blk h 2
  have HS := Lib.hid (rgSlot_any h hR (cnt - 1) (by omega))
  have H := Lib.hid h
  have e1 : (cnt : Int) - 1 = ((cnt - 1 : Nat) : Int) := by omega
  clear h
  go_enter Try.func76, Try.ntmps76
  go_wp2_with fail
  refine HS.out.mono ?_
  rintro e w2 ⟨rfl, m, rfl⟩
  go_wp2_with fail
  go_ret
  exact ⟨rfl, H.out, (Frm.refl _ _).drewN _⟩

set_option maxHeartbeats 2000000 in
theorem rgTop_any {w : World} {ga sb R top cnt : Nat} (h : RgB w ga sb R top cnt) (hR : 1 ≤ R ∧ R ≤ 64 ∧ top < R) :
    Calls Try.prog 77 #[.pointer (some ⟨ga, 0, none⟩)] w fun e w' => e = .returned (.int .i64 top) ∧ RgB w' ga sb R ((top + 1) % R) cnt ∧ Frm (fun j => j = ga) w w' := by
  have c1 := cell_blk h 1
  have hls : ga < w.heap.size := (Array.getElem?_eq_some_iff.1 h).1
  have HS := Lib.hid (rgSlot_any h hR 1 (by omega))
  have H := Lib.hid h
  obtain ⟨q, hq⟩ : ∃ q, (top + 1) % R = q := ⟨_, rfl⟩
  rw [hq]
  rw [hq] at HS
  clear h hq
  go_enter Try.func77, Try.ntmps77
  go_wp2_with fail
  refine HS.out.mono ?_
  rintro e w2 ⟨rfl, m, rfl⟩
  have d1 : (w.drewN m).cell? ⟨ga, 1, none⟩ = some (.int .i64 top) := c1
  have f1 := frozen_blk (w := w.drewN m) (g := ga) H.out 1
  go_wp2_with fail
  go_ret
  refine ⟨rfl, ?_, ?_⟩
  · have := set_blk (w := w.drewN m) H.out 1 (.int .i64 q)
    unfold RgB; rw [this]; rfl
  · exact ((Frm.refl _ _).drewN m).then (Frm.setCell (S := fun j => j = ga) (p := ⟨ga, 1, none⟩) rfl _)

theorem RgRm.up {w w2 : World} {K : Nat → Prop} {ga sb R cnt i top' top c0 : Nat} {C C0 : Nat → SlotX} {e : Ending} {cs : Array Value} {o : Obj} (h0 : RgK w K ga sb R top c0 C0) (h : RgRm (w.alloc o) K ga sb R cnt i top' C e w2) : RgRm w K ga sb R cnt i top' C e (w2.setRow w.heap.size cs) := by
  obtain ⟨h1, h2, h3, h4⟩ := h
  have hfr : Frm (fun k => k = w.heap.size) w2 (w2.setRow w.heap.size cs) := ⟨rfl, rfl, rfl, by simp [World.setRow], fun k _ hk => row_far hk⟩
  have hn : ∀ j, RgS K ga sb j → ¬ j = w.heap.size := fun j hj e => by have := h0.lts j hj; omega
  refine ⟨h1, h2.keep hfr hn, h3.keep hfr (fun j hj => hn j (.inl hj)) (fun _ _ e => e) h2.lt, ?_⟩
  have hb : Below w.heap.size w2 (w2.setRow w.heap.size cs) := row_below (Nat.le_refl _)
  have f1 : Frm (fun j => j = ga ∨ j = sb) w w2 := (Frm.of_below (below_alloc w o)).trans h4 fun _ _ e => e
  exact ⟨hb.os.trans f1.os, hb.tape.trans f1.tape, hb.output.trans f1.output, Nat.le_trans f1.size hb.size, fun k hk hn => (hb.block k hk).trans (f1.block k hk hn)⟩

set_option maxRecDepth 100000 in
set_option maxHeartbeats 8000000 in
theorem rgPop_any {w : World} {K : Nat → Prop} {ga sb R top cnt : Nat} {C : Nat → SlotX} (h : RgK w K ga sb R top cnt C) (hc : 0 < cnt) :
    Calls Try.prog 41 #[.pointer (some ⟨ga, 0, none⟩)] w (RgRm w K ga sb R cnt ((top + (cnt - 1)) % R) (top) C) := by
  obtain ⟨i, hi⟩ : ∃ i, (top + (cnt - 1)) % R = i := ⟨_, rfl⟩
  obtain ⟨top', ht⟩ : ∃ i, top = i := ⟨_, rfl⟩
  have hR := h.r1; have htp := h.tp; have hct := h.ct
  have hm : ∀ n, n % R < R := fun n => Nat.mod_lt _ (by omega)
  have hi2 : i < R := by rw [← hi]; first | exact hm _ | exact htp
  have ht2 : top' < R := by rw [← ht]; first | exact hm _ | exact htp
  have h1 := h.below (below_alloc w (.cells (taskA zT nilV) 51))
  have HR := Lib.hid (rgRemove_any 76 (fun xs w => Try.call76 xs w) h1 hc hi2 ht2 (fun w' hb => by rw [← hi, ← ht]; exact rgBottom_any hb ⟨hR.1, hR.2, htp⟩ hc (by omega)))
  first | rw [hi, ht] | rw [ht, hi]
  have H := Lib.hid h
  have HZ : Hid ((w.alloc (.cells (taskA zT nilV) 51)).heap[w.heap.size]? = some (.cells (taskA zT nilV) 51 (0, 0))) := Lib.hid (heap_alloc_new w _)
  obtain ⟨w1, hw1⟩ : ∃ w1, w1 = w.alloc (.cells (taskA zT nilV) 51) := ⟨_, rfl⟩
  rw [← hw1] at HZ
  have HW1 := Lib.hid hw1
  have hsz : w1.heap.size = w.heap.size + 1 := by rw [hw1]; simp
  rw [← hw1] at HR
  clear h h1 hi ht hw1
  go_enter Try.func41, Try.ntmps41
  go_wp2_with fail
  rw [show w.alloc (.cells #[.int .i32 0, .int .i64 0, .int .i64 0, .slice none 0 0, .int .i32 0, .int .i32 0, .int .i32 0, .int .i32 0, .int .i64 0, .int .i64 0, .int .u32 0, .int .i64 0] 51) = w1 from HW1.out.symm]
  refine HR.out.mono ?_
  rintro e w2 h2
  have H2 := Lib.hid h2
  have HZ2 : Hid (w2.heap[w.heap.size]? = some (.cells (taskA zT nilV) 51 (0, 0))) := Lib.hid ((h2.2.2.2.block _ (by omega) (fun e => by have h3 := H.out.lts ga (.inr (.inl rfl)); have h4 := H.out.lts sb (.inr (.inr rfl)); omega)).trans HZ.out)
  have HO : Hid ((C i).2.oneCell' = true) := Lib.hid h2.2.2.1.v.one
  obtain ⟨t, hct1⟩ : ∃ t, (C i).1 = t := ⟨_, rfl⟩
  obtain ⟨s, hcs1⟩ : ∃ s, (C i).2 = s := ⟨_, rfl⟩
  rw [hcs1] at HO
  have HE : Hid (RgRm w K ga sb R cnt i top' C (.returned (.tuple #[taskV t s, .bool true])) (w2.setRow w.heap.size (taskA t s))) := Lib.hid (by
    have h5 := RgRm.up (cs := taskA t s) (o := .cells (taskA zT nilV) 51) H.out (by rw [← HW1.out]; exact h2)
    rw [h2.1, hct1, hcs1] at h5
    exact h5)
  obtain ⟨rfl, -⟩ := h2
  rw [hct1, hcs1]
  clear hct1 hcs1
  go_wp2_with (first | (refine store_task rfl _ _ rfl rfl w.heap.size t s rfl rfl _ _ _ HZ2.out HO.out ?_) | fail)
  exact ret_task_bool (u := t) (s := s) rfl rfl rfl rfl (row_at HZ2.out _) HE.out
set_option maxRecDepth 100000 in
set_option maxHeartbeats 8000000 in
theorem rgPop_no {w : World} {ga sb R top : Nat} (h : RgB w ga sb R top 0) :
    Calls Try.prog 41 #[.pointer (some ⟨ga, 0, none⟩)] w (RgNo w) := by
  have hla := (Array.getElem?_eq_some_iff.1 h).1
  have B1 : Hid (Below w.heap.size w (w.alloc (.cells (taskA zT nilV) 51))) := Lib.hid (below_alloc w _)
  have HR := Lib.hid (rgRemove_no (w := w.alloc (.cells (taskA zT nilV) 51)) (a := ga) (R := R) (top := top) (sb := sb) ((B1.out.block _ hla).trans h) (.func (.func 76) #[.pointer (some ⟨ga, 0, none⟩)] #[]) ⟨_, _, _, rfl⟩)
  have HZ : Hid ((w.alloc (.cells (taskA zT nilV) 51)).heap[w.heap.size]? = some (.cells (taskA zT nilV) 51 (0, 0))) := Lib.hid (heap_alloc_new w _)
  obtain ⟨w1, hw1⟩ : ∃ w1, w1 = w.alloc (.cells (taskA zT nilV) 51) := ⟨_, rfl⟩
  rw [← hw1] at HZ HR B1
  have HW1 := Lib.hid hw1
  have hsz : w1.heap.size = w.heap.size + 1 := by rw [hw1]; simp
  clear h hw1
  go_enter Try.func41, Try.ntmps41
  go_wp2_with fail
  rw [show w.alloc (.cells #[.int .i32 0, .int .i64 0, .int .i64 0, .slice none 0 0, .int .i32 0, .int .i32 0, .int .i32 0, .int .i32 0, .int .i64 0, .int .i64 0, .int .u32 0, .int .i64 0] 51) = w1 from HW1.out.symm]
  refine HR.out.mono ?_
  rintro e w2 ⟨rfl, hb⟩
  have HZ2 : Hid (w2.heap[w.heap.size]? = some (.cells (taskA zT nilV) 51 (0, 0))) := Lib.hid ((hb.block _ (by omega)).trans HZ.out)
  have HE : Hid (RgNo w (.returned (.tuple #[taskV zT nilV, .bool false])) (w2.setRow w.heap.size (taskA zT nilV))) := Lib.hid ⟨rfl, (nextB B1.out hb).trans (row_below (Nat.le_refl _))⟩
  clear hb
  go_wp2_with (first | (refine store_task rfl _ _ rfl rfl w.heap.size zT nilV rfl rfl _ _ _ HZ2.out rfl ?_) | fail)
  exact ret_task_bool (u := zT) (s := nilV) rfl rfl rfl rfl (row_at HZ2.out _) HE.out
set_option maxRecDepth 100000 in
set_option maxHeartbeats 8000000 in
theorem rgSteal_any {w : World} {K : Nat → Prop} {ga sb R top cnt : Nat} {C : Nat → SlotX} (h : RgK w K ga sb R top cnt C) (hc : 0 < cnt) :
    Calls Try.prog 43 #[.pointer (some ⟨ga, 0, none⟩)] w (RgRm w K ga sb R cnt (top) ((top + 1) % R) C) := by
  obtain ⟨i, hi⟩ : ∃ i, top = i := ⟨_, rfl⟩
  obtain ⟨top', ht⟩ : ∃ i, (top + 1) % R = i := ⟨_, rfl⟩
  have hR := h.r1; have htp := h.tp; have hct := h.ct
  have hm : ∀ n, n % R < R := fun n => Nat.mod_lt _ (by omega)
  have hi2 : i < R := by rw [← hi]; first | exact hm _ | exact htp
  have ht2 : top' < R := by rw [← ht]; first | exact hm _ | exact htp
  have h1 := h.below (below_alloc w (.cells (taskA zT nilV) 51))
  have HR := Lib.hid (rgRemove_any 77 (fun xs w => Try.call77 xs w) h1 hc hi2 ht2 (fun w' hb => by rw [← hi, ← ht]; exact rgTop_any hb ⟨hR.1, hR.2, htp⟩ ))
  first | rw [hi, ht] | rw [ht, hi]
  have H := Lib.hid h
  have HZ : Hid ((w.alloc (.cells (taskA zT nilV) 51)).heap[w.heap.size]? = some (.cells (taskA zT nilV) 51 (0, 0))) := Lib.hid (heap_alloc_new w _)
  obtain ⟨w1, hw1⟩ : ∃ w1, w1 = w.alloc (.cells (taskA zT nilV) 51) := ⟨_, rfl⟩
  rw [← hw1] at HZ
  have HW1 := Lib.hid hw1
  have hsz : w1.heap.size = w.heap.size + 1 := by rw [hw1]; simp
  rw [← hw1] at HR
  clear h h1 hi ht hw1
  go_enter Try.func43, Try.ntmps43
  go_wp2_with fail
  rw [show w.alloc (.cells #[.int .i32 0, .int .i64 0, .int .i64 0, .slice none 0 0, .int .i32 0, .int .i32 0, .int .i32 0, .int .i32 0, .int .i64 0, .int .i64 0, .int .u32 0, .int .i64 0] 51) = w1 from HW1.out.symm]
  refine HR.out.mono ?_
  rintro e w2 h2
  have H2 := Lib.hid h2
  have HZ2 : Hid (w2.heap[w.heap.size]? = some (.cells (taskA zT nilV) 51 (0, 0))) := Lib.hid ((h2.2.2.2.block _ (by omega) (fun e => by have h3 := H.out.lts ga (.inr (.inl rfl)); have h4 := H.out.lts sb (.inr (.inr rfl)); omega)).trans HZ.out)
  have HO : Hid ((C i).2.oneCell' = true) := Lib.hid h2.2.2.1.v.one
  obtain ⟨t, hct1⟩ : ∃ t, (C i).1 = t := ⟨_, rfl⟩
  obtain ⟨s, hcs1⟩ : ∃ s, (C i).2 = s := ⟨_, rfl⟩
  rw [hcs1] at HO
  have HE : Hid (RgRm w K ga sb R cnt i top' C (.returned (.tuple #[taskV t s, .bool true])) (w2.setRow w.heap.size (taskA t s))) := Lib.hid (by
    have h5 := RgRm.up (cs := taskA t s) (o := .cells (taskA zT nilV) 51) H.out (by rw [← HW1.out]; exact h2)
    rw [h2.1, hct1, hcs1] at h5
    exact h5)
  obtain ⟨rfl, -⟩ := h2
  rw [hct1, hcs1]
  clear hct1 hcs1
  go_wp2_with (first | (refine store_task rfl _ _ rfl rfl w.heap.size t s rfl rfl _ _ _ HZ2.out HO.out ?_) | fail)
  exact ret_task_bool (u := t) (s := s) rfl rfl rfl rfl (row_at HZ2.out _) HE.out
set_option maxRecDepth 100000 in
set_option maxHeartbeats 8000000 in
theorem rgSteal_no {w : World} {ga sb R top : Nat} (h : RgB w ga sb R top 0) :
    Calls Try.prog 43 #[.pointer (some ⟨ga, 0, none⟩)] w (RgNo w) := by
  have hla := (Array.getElem?_eq_some_iff.1 h).1
  have B1 : Hid (Below w.heap.size w (w.alloc (.cells (taskA zT nilV) 51))) := Lib.hid (below_alloc w _)
  have HR := Lib.hid (rgRemove_no (w := w.alloc (.cells (taskA zT nilV) 51)) (a := ga) (R := R) (top := top) (sb := sb) ((B1.out.block _ hla).trans h) (.func (.func 77) #[.pointer (some ⟨ga, 0, none⟩)] #[]) ⟨_, _, _, rfl⟩)
  have HZ : Hid ((w.alloc (.cells (taskA zT nilV) 51)).heap[w.heap.size]? = some (.cells (taskA zT nilV) 51 (0, 0))) := Lib.hid (heap_alloc_new w _)
  obtain ⟨w1, hw1⟩ : ∃ w1, w1 = w.alloc (.cells (taskA zT nilV) 51) := ⟨_, rfl⟩
  rw [← hw1] at HZ HR B1
  have HW1 := Lib.hid hw1
  have hsz : w1.heap.size = w.heap.size + 1 := by rw [hw1]; simp
  clear h hw1
  go_enter Try.func43, Try.ntmps43
  go_wp2_with fail
  rw [show w.alloc (.cells #[.int .i32 0, .int .i64 0, .int .i64 0, .slice none 0 0, .int .i32 0, .int .i32 0, .int .i32 0, .int .i32 0, .int .i64 0, .int .i64 0, .int .u32 0, .int .i64 0] 51) = w1 from HW1.out.symm]
  refine HR.out.mono ?_
  rintro e w2 ⟨rfl, hb⟩
  have HZ2 : Hid (w2.heap[w.heap.size]? = some (.cells (taskA zT nilV) 51 (0, 0))) := Lib.hid ((hb.block _ (by omega)).trans HZ.out)
  have HE : Hid (RgNo w (.returned (.tuple #[taskV zT nilV, .bool false])) (w2.setRow w.heap.size (taskA zT nilV))) := Lib.hid ⟨rfl, (nextB B1.out hb).trans (row_below (Nat.le_refl _))⟩
  clear hb
  go_wp2_with (first | (refine store_task rfl _ _ rfl rfl w.heap.size zT nilV rfl rfl _ _ _ HZ2.out rfl ?_) | fail)
  exact ret_task_bool (u := zT) (s := nilV) rfl rfl rfl rfl (row_at HZ2.out _) HE.out

end Go.Proofs.Ytlmbjnegajiphaa
