/- Package ring: All. -/
import Derived.Test.YtlmbjnegajiphaaRga15
import Derived.Test.YtlmbjnegajiphaaApq
import Derived.Test.YtlmbjnegajiphaaOwn
namespace Go.Proofs.Ytlmbjnegajiphaa
set_option maxRecDepth 100000
open Go.RowKit

/-- The list that All makes: L' so far, its stacks in blocks of S. -/
structure AlV (w : World) (L : List SlotX) (v : Value) (j : Nat) (wr : World) (L' : List SlotX) (S : Nat → Prop) : Prop where
  own : OwnT wr w.heap.size v L'
  len : L'.length = j
  eq : L'.map Prod.fst = (L.take j).map Prod.fst
  st : ∀ x ∈ L', StkV wr S x ∧ x.1.st.length ≤ 100000
  lt : ∀ b, S b → w.heap.size ≤ b ∧ b < wr.heap.size ∧ v.ownBlock ≠ some b
  bl : Below w.heap.size w wr
theorem AlV.snoc {w wr wA wQ : World} {L L' : List SlotX} {S : Nat → Prop} {v vQ : Value} {j : Nat} {t : TK} {s s' : Value} (h : AlV w L v j wr L' S) (hx : L[j]? = some (t, s)) (hn : t.st.length ≤ 100000)
    (ho : Own32 wA wr.heap.size s' t.st) (hb : Below wr.heap.size wr wA) (oQ : wQ.ownsRow w.heap.size 51 12 vQ (j + 1) (rowE slotA L' ++ (taskA t s').toList))
    (gQ : wA.grownBy wQ v.ownBlock) (bQ : vQ.ownBlock = v.ownBlock ∨ ∃ k, vQ.ownBlock = some k ∧ wA.heap.size ≤ k) : AlV w L vQ (j + 1) wQ (L' ++ [(t, s')]) (fun b => S b ∨ s'.ownBlock = some b) := by
  have hv : ∀ b, v.ownBlock = some b → w.heap.size ≤ b ∧ b < wr.heap.size := fun b e => World.ownsRow.lt h.own b e
  have hs : ∀ b, s'.ownBlock = some b → wr.heap.size ≤ b ∧ b < wA.heap.size := fun b e => World.ownsRow.lt ho b e
  have hsz := hb.size
  have hw := h.bl.size
  have hgs := gQ.size
  have hF : Frm (fun b => v.ownBlock = some b) wr wQ := ⟨gQ.os.trans hb.os, gQ.tape.trans hb.tape, gQ.output.trans hb.output, Nat.le_trans hb.size gQ.size, fun k hk hne => (gQ.block k (by omega) (fun e => hne e.symm)).trans (hb.block k hk)⟩
  refine ⟨OwnT.snoc h.len.symm oQ, by simp [h.len], ?_, ?_, ?_, ?_⟩
  · rw [List.map_append, h.eq, List.take_add_one, hx]; simp
  · intro x hxm
    rw [List.mem_append, List.mem_singleton] at hxm
    rcases hxm with hxm | rfl
    · exact ⟨(h.st x hxm).1.keep hF (fun b hb e => (h.lt b hb).2.2 e) (fun _ _ h => .inl h) (fun b hb => (h.lt b hb).2.1), (h.st x hxm).2⟩
    · refine ⟨?_, hn⟩
      have ho2 : Own32 wQ wr.heap.size s' t.st := ownsRow_keep ho fun b e => gQ.block b (hs b e).2 (fun e2 => by have := hv b e2.symm; have := hs b e; omega)
      obtain ⟨A, c, e, hn, _, _, hl, hbk⟩ := Lies.of_own ho2
      exact ⟨A, c, e, hn, hl, fun b off e2 => .inr (by rw [e, e2]; rfl)⟩
  · intro b hb
    rcases hb with hb | hb
    · obtain ⟨h1, h2, h3⟩ := h.lt b hb
      refine ⟨h1, by omega, fun e => ?_⟩
      rcases bQ with e2 | ⟨k, e2, h4⟩
      · exact h3 (e2.symm.trans e)
      · rw [e2] at e; injection e with e; omega
    · have h1 := hs b hb
      refine ⟨by omega, by omega, fun e => ?_⟩
      rcases bQ with e2 | ⟨k, e2, h4⟩
      · have := hv b (e2.symm.trans e); omega
      · rw [e2] at e; injection e with e; omega
  · exact (h.bl.trans (hb.mono hw)).grown gQ (by omega) (fun k hk => (hv k hk).1)

/-- What All answers. -/
def RgAll (w : World) (L : List SlotX) (e : Ending) (w' : World) : Prop := ∃ v L' S, e = .returned v ∧ AlV w L v L.length w' L' S
set_option maxRecDepth 100000 in
set_option maxHeartbeats 16000000 in
theorem rgAll_any {w : World} {K : Nat → Prop} {ga sb R top cnt : Nat} {C : Nat → SlotX} (h : RgK w K ga sb R top cnt C) :
    Calls Try.prog 49 #[.pointer (some ⟨ga, 0, none⟩)] w (RgAll w (ringL C R top cnt)) := by
  have H := Lib.hid h
  have c2 := cell_blk h.blk 2
  have hct := h.ct
  have hR := h.r1
  have htp := h.tp
  have hla := h.lts ga (.inr (.inl rfl))
  have hls := h.lts sb (.inr (.inr rfl))
  clear h
  go_enter Try.func49, Try.ntmps49
  go_wp2_with fail
  go_loopw [3, 9] (fun f i wr => ∃ (j : Nat) (L' : List SlotX) (S : Nat → Prop), j ≤ cnt ∧ i = .int .i64 j ∧ AlV w (ringL C R top cnt) f j wr L' S) (fun _ i _ => cnt - (intOf i).toNat)
  case atStart => exact ⟨0, [], fun _ => False, Nat.zero_le _, rfl, ⟨OwnT.nil _ _, rfl, rfl, fun x hx => by simp at hx, fun _ h => h.elim, Below.refl _ _⟩⟩
  case round =>
    obtain ⟨j, L', S, hj, rfl, hA⟩ := hrel
    have HA := Lib.hid hA
    by_cases hjc : j < cnt
    · have hbl := hA.bl
      obtain ⟨i, hi⟩ : ∃ i, (top + j) % R = i := ⟨_, rfl⟩
      have hiR : i < R := by rw [← hi]; exact Nat.mod_lt _ (by omega)
      have hx : (ringL C R top cnt)[j]? = some (C i) := by rw [← hi]; simp [ringL, hjc]
      have hk := H.out.below hbl
      have HB : Hid (RgB wr ga sb R top cnt) := Lib.hid (by exact (hbl.block ga hla).trans H.out.blk)
      have HSL := Lib.hid (fun w' (hb : RgB w' ga sb R top cnt) => rgSlot_any hb ⟨hR.1, hR.2, htp⟩ j (by omega))
      rw [hi] at HSL
      obtain ⟨hst, hnt⟩ := H.out.st i hiR
      have hrg := hk.range hiR
      have hv : I32V wr wr.heap.size (C i).2 (C i).1.st := (hst.keep (T := fun _ => False) (S' := fun _ => True) ⟨hbl.os, hbl.tape, hbl.output, hbl.size, fun k hk hn => hbl.block k hk⟩ (fun _ _ e => e) (fun _ _ _ => trivial) H.out.lt).v
      obtain ⟨⟨t, s⟩, hts⟩ : ∃ ts, C i = ts := ⟨_, rfl⟩
      rw [hts] at hrg hv hnt hx
      have d0 : wr.cell? ⟨sb, i * 12, none⟩ = some (.int .i32 t.id) := hrg 0 _ rfl
      have d1 : wr.cell? ⟨sb, i * 12 + 1, none⟩ = some (.int .i64 t.fn) := hrg 1 _ rfl
      have d2 : wr.cell? ⟨sb, i * 12 + 2, none⟩ = some (.int .i64 t.pc) := hrg 2 _ rfl
      have d3 : wr.cell? ⟨sb, i * 12 + 3, none⟩ = some (s) := hrg 3 _ rfl
      have d4 : wr.cell? ⟨sb, i * 12 + 4, none⟩ = some (.int .i32 t.v0) := hrg 4 _ rfl
      have d5 : wr.cell? ⟨sb, i * 12 + 5, none⟩ = some (.int .i32 t.v1) := hrg 5 _ rfl
      have d6 : wr.cell? ⟨sb, i * 12 + 6, none⟩ = some (.int .i32 t.v2) := hrg 6 _ rfl
      have d7 : wr.cell? ⟨sb, i * 12 + 7, none⟩ = some (.int .i32 t.v3) := hrg 7 _ rfl
      have d8 : wr.cell? ⟨sb, i * 12 + 8, none⟩ = some (.int .i64 t.lb) := hrg 8 _ rfl
      have d9 : wr.cell? ⟨sb, i * 12 + 9, none⟩ = some (.int .i64 t.cl) := hrg 9 _ rfl
      have d10 : wr.cell? ⟨sb, i * 12 + 10, none⟩ = some (.int .u32 t.pv) := hrg 10 _ rfl
      have d11 : wr.cell? ⟨sb, i * 12 + 11, none⟩ = some (.int .i64 t.wk) := hrg 11 _ rfl
      have HOT : Hid (∀ w', Below wr.heap.size wr w' → Calls Try.prog 73 #[.agg #[.int .i32 t.id, .int .i64 t.fn, .int .i64 t.pc, s, .int .i32 t.v0, .int .i32 t.v1, .int .i32 t.v2, .int .i32 t.v3, .int .i64 t.lb, .int .i64 t.cl, .int .u32 t.pv, .int .i64 t.wk]] w' (TD w' t)) := Lib.hid (fun w' (hb : Below wr.heap.size wr w') => ownTask_any t s w' (hv.later hb) hnt)
      have HX := Lib.hid hx
      have HNT : Hid (t.st.length ≤ 100000) := Lib.hid hnt
      have hao := hA.own
      have HOW : Hid (wr.ownsRow w.heap.size 51 12 u3 j (rowE slotA L')) := Lib.hid (by unfold OwnT at hao; rwa [hA.len] at hao)
      have hvo : ∀ b, u3.ownBlock = some b → b < wr.heap.size := fun b e => (World.ownsRow.lt HOW.out b e).2
      have HVO := Lib.hid hvo
      have c0 := cell_blk hk.blk 0
      have i1 : (0 : Int) ≤ (i : Int) ∧ (i : Int) < R := by omega
      have hw0 : w.heap.size ≤ wr.heap.size := hbl.size
      have hj6 : j ≤ 64 := by omega
      clear hst hk hbl hrg hv hts hnt hx hA hi hao hvo
      go_wp2_with fail
      go_region_law
        (first
          | (refine step_go rfl ?_; go_simp; (with_reducible refine (HSL.out _ ?_).mono ?_); exact HB.out; rintro e wA ⟨rfl, m, rfl⟩)
          | (refine step_go rfl ?_; go_simp; (with_reducible refine (HOT.out _ ?_).mono ?_); exact ⟨rfl, rfl, rfl, Nat.le_refl _, fun _ _ => rfl⟩; rintro e wA ⟨⟨s', rfl, ho⟩, hbA⟩; obtain ⟨A1, n1, c1, rfl⟩ := ho.shape
             have hbB : Below wr.heap.size wr wA := ⟨hbA.os, hbA.tape, hbA.output, hbA.size, hbA.block⟩
             have HOA : Hid (wA.ownsRow w.heap.size 51 12 u3 j (rowE slotA L')) := Lib.hid (ownsRow_keep HOW.out fun b e => hbB.block b (HVO.out b e))
             have HSA : Hid (wr.heap.size ≤ wA.heap.size) := Lib.hid hbB.size
             have HHA : Hid (Own32 wA wr.heap.size (.slice A1 n1 c1) t.st ∧ Below wr.heap.size wr wA) := Lib.hid ⟨ho, hbB⟩
             clear ho hbA hbB
             simp only [taskV, taskA])
          | (refine step_append_itm 55 51 _ 12 96 Try.underlying55 inf_task rfl (by decide) (by decide) rfl (.tmp 12) (.tmp 23) rfl w.heap.size u3 j (rowE slotA L') rfl ?_ _ (taskA t (.slice A1 n1 c1)) rfl ?_ rfl ?_ ?_ ?_ ?_
             · exact HOA.out.alloc _
             · exact heap_alloc_new _ _
             · intro u hu; have := task_ones (t := t) (s := .slice A1 n1 c1) rfl; rw [Array.all_eq_true'] at this; exact this u (Array.mem_toList_iff.1 hu)
             · omega
             · have := HSA.out; simp; omega
             intro vQ wQ oQ gQ bQ))
      all_goals
        have HF := Lib.hid (AlV.snoc HA.out HX.out HNT.out HHA.out.1 HHA.out.2 oQ (grown_of (below_alloc _ _) gQ) (by rcases bQ with e | e; exact .inl e; exact .inr ⟨_, e, by simp⟩))
        clear oQ gQ bQ
        go_wp2_with fail
        go_roundw
        case rel => exact ⟨j + 1, _, _, by omega, by go_num, HF.out⟩
        case measure => simp [intOf]; omega
    · obtain rfl : cnt = j := by omega
      go_wp2_with fail
      go_ret
      refine ⟨_, L', S, rfl, ?_⟩
      rw [ringL_length]
      exact HA.out

end Go.Proofs.Ytlmbjnegajiphaa
