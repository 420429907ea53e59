/- The reference's ring: Push. -/
import Derived.Test.YtlmbjnegajiphaaRs15
import Derived.BigQuiet
namespace Go.Proofs.Ytlmbjnegajiphaa
set_option maxRecDepth 100000
open Go.RowKit

/-- append of a list that lies in memory, as a step of a region whose order is open. -/
theorem step_append_list {w : World} {ops : Array Oper} {o : Oper} {a : Act} {K : Act → World → Prop} {Q : Exit → Act → World → Prop} {E : Prop} (t e : Nat) (z : Value) (size bytes : Nat)
    (ht : Try.prog.underlying t = some (.slice e)) (hinf : (Try.prog.info? e).map (fun i => (i.zero, i.size, i.bytes)) = some (some z, size, bytes)) (hzs : z.cells.size = size) (hsz : 0 < size) (hby : bytes ≤ 1000) (hgd : o.guard = none) (s x : Operand)
    (ho : o.op = .call { callee := .builtin .append, args := #[s, x], argTypes := #[t, t] })
    (base : Nat) (v : Value) (n : Nat) (xs : List Value) (hs : a.eval s = v) (hown : w.ownsRow base e size v n xs)
    (ad : Addr) (m c : Nat) (news : List Value) (hx : a.eval x = .slice (some ad) m c) (hl : news.length = m * size) (hnews : ∀ j u, news[j]? = some u → w.cell? (ad.add j) = some u) (h1 : ∀ u ∈ news, u.oneCell' = true)
    (hn : n + m ≤ 999999) (hbase : base ≤ w.heap.size)
    (h : ∀ v' w', w'.ownsRow base e size v' (n + m) (xs ++ news) → w.grownBy w' v.ownBlock → (v'.ownBlock = v.ownBlock ∨ v'.ownBlock = some w.heap.size) → K (a.put o.dst v') w') :
    if Region.wanted o (yielded ops a.tmps) = true then Oper.wp Try.prog o a w K Q else E := by
  have hw : Region.wanted o (yielded ops a.tmps) = true := by simp [Region.wanted, hgd]
  rw [if_pos hw]
  obtain ⟨i0, hi, hq⟩ : ∃ i0, Try.prog.info? e = some i0 ∧ (i0.zero, i0.size, i0.bytes) = (some z, size, bytes) := by
    cases hI : Try.prog.info? e with
    | none => rw [hI] at hinf; cases hinf
    | some i0 => rw [hI] at hinf; exact ⟨i0, rfl, by simpa using hinf⟩
  injection hq with hq1 hq2
  injection hq2 with hq2 hq3
  have hmul : (n + m) * bytes ≤ 1000000 * 1000 := Nat.mul_le_mul (by omega) hby
  obtain ⟨v', w', hr, h2, h3, h4, h5⟩ := run_append_own_at (P := Try.prog) w base t o.type e i0 z size bytes ht hi hq1 hq2 hq3 hzs hsz v n xs hown ad m c news hl hnews h1 (by unfold maxLen; omega) (by omega) hbase
  unfold Oper.wp execOp
  simp only [ho, resolve, invoke, builtin, Sem.run_bind, Sem.run_pure, Result.andThen_ok, List.map_toArray, List.map_cons, List.map_nil, hs, hx, hr]
  exact h v' w' h2 h3 h5

set_option maxRecDepth 100000 in
set_option maxHeartbeats 8000000 in
theorem rrPush_any {w : World} {S T : Nat → Prop} {b R : Nat} {M : List TK} {t : TK} {s : Value} (h : RrV w S b R M) (hML : M.length ≤ 100) (hs : StkV w T (t, s)) (hT : ∀ i, T i → i < w.heap.size ∧ i ≠ b) (hn : t.st.length ≤ 1000) :
    Calls Try.prog 40 #[.pointer (some ⟨b, 0, none⟩), taskV t s] w (RrPush w S T b R M t) := by
  obtain ⟨A, c, L, h, hM⟩ := h
  have hl : L.length = M.length := by have := congrArg List.length hM; simpa using this
  obtain ⟨n1, hn1⟩ : ∃ n1, L.length = n1 := ⟨_, rfl⟩
  have hblk := h.blk
  have hbl := h.lt b h.bS
  have H := Lib.hid h
  have HM := Lib.hid hM
  have HSK := Lib.hid hs
  have HTT := Lib.hid hT
  have HN := Lib.hid hn
  obtain ⟨As, cs, hse, _⟩ := hs
  generalize t.st.length = ns at hse
  have hse : s = .slice As ns cs := hse
  subst hse
  rw [hn1] at hblk
  have hn100 : n1 ≤ 100 := by omega
  have HMN : Hid (M.length = n1) := Lib.hid (by omega)
  have HN1 := Lib.hid hn1
  obtain ⟨w1, hw1⟩ : ∃ x, x = w.alloc (.cells (taskA t (.slice As ns cs)) 51) := ⟨_, rfl⟩
  have B1 : Hid (Below w.heap.size w w1) := Lib.hid (by rw [hw1]; exact below_alloc w _)
  have HT1 : Hid (w1.heap[w.heap.size]? = some (.cells (taskA t (.slice As ns cs)) 51 (0, 0))) := Lib.hid (by rw [hw1]; exact heap_alloc_new w _)
  have hb1 : w1.heap[b]? = some (.cells #[.int .i64 R, .slice A n1 c] 74 (0, 0)) := (B1.out.block b hbl).trans hblk
  have HB1 := Lib.hid hb1
  have HBK := Lib.hid hblk
  have hs1 : w.heap.size < w1.heap.size := (Array.getElem?_eq_some_iff.1 HT1.out).1
  have c0 : w1.cell? ⟨b, 0, none⟩ = some (.int .i64 R) := cell_blk hb1 0
  have c1 : w1.cell? ⟨b, 1, none⟩ = some (.slice A n1 c) := cell_blk hb1 1
  have f1 := frozen_blk hb1 1
  have hb1s : b < w1.heap.size := by omega
  have HW1 := Lib.hid hw1
  clear hM hl hn1 hblk hT hn hb1 hw1
  by_cases hR : R ≤ n1
  · have z : decide ((R : Int) ≤ (n1 : Int)) = true := by simpa using hR
    have HF : Hid (∀ w', Below w1.heap.size w1 w' → RrPush w S T b R M t (.returned (.bool false)) w') := Lib.hid fun w' hb => by
      have hlt : ¬ M.length < R := by rw [HMN.out]; omega
      have hb2 := nextB B1.out hb
      refine ⟨S, by rw [decide_eq_false hlt], by rw [if_neg hlt]; exact ⟨A, c, L, H.out.below hb2, HM.out⟩, ⟨Frm.of_below hb2, fun i _ e => .inl e, fun i hi => Nat.lt_of_lt_of_le (H.out.lt i hi) hb2.size⟩, Frm.of_below hb2⟩
    clear h
    unfold taskV
    go_enter Try.func40, Try.ntmps40
    go_upto_region 1 with (fail)
    rw [show w.alloc (.cells (taskA t (.slice As ns cs)) 51) = w1 from HW1.out.symm]
    go_quiet (fail)
    go_wp2_with fail
    go_ret
    exact HF.out _ (below_drewN (Below.refl _ _) _)
  · have z : decide ((R : Int) ≤ (n1 : Int)) = false := by simpa using hR
    have d0 : w1.cell? ⟨w.heap.size, 0, none⟩ = some (.int .i32 t.id) := cell_blk HT1.out 0
    have d1 : w1.cell? ⟨w.heap.size, 1, none⟩ = some (.int .i64 t.fn) := cell_blk HT1.out 1
    have d2 : w1.cell? ⟨w.heap.size, 2, none⟩ = some (.int .i64 t.pc) := cell_blk HT1.out 2
    have d3 : w1.cell? ⟨w.heap.size, 3, none⟩ = some (.slice As ns cs) := cell_blk HT1.out 3
    have d4 : w1.cell? ⟨w.heap.size, 4, none⟩ = some (.int .i32 t.v0) := cell_blk HT1.out 4
    have d5 : w1.cell? ⟨w.heap.size, 5, none⟩ = some (.int .i32 t.v1) := cell_blk HT1.out 5
    have d6 : w1.cell? ⟨w.heap.size, 6, none⟩ = some (.int .i32 t.v2) := cell_blk HT1.out 6
    have d7 : w1.cell? ⟨w.heap.size, 7, none⟩ = some (.int .i32 t.v3) := cell_blk HT1.out 7
    have d8 : w1.cell? ⟨w.heap.size, 8, none⟩ = some (.int .i64 t.lb) := cell_blk HT1.out 8
    have d9 : w1.cell? ⟨w.heap.size, 9, none⟩ = some (.int .i64 t.cl) := cell_blk HT1.out 9
    have d10 : w1.cell? ⟨w.heap.size, 10, none⟩ = some (.int .u32 t.pv) := cell_blk HT1.out 10
    have d11 : w1.cell? ⟨w.heap.size, 11, none⟩ = some (.int .i64 t.wk) := cell_blk HT1.out 11
    have HP : Hid (∀ wQ vQ, Below w.heap.size w wQ → wQ.ownsRow w.heap.size 51 12 vQ (n1 + 1) (rowE slotA L ++ (taskA t (.slice As ns cs)).toList) → RrPush w S T b R M t (.returned (.bool true)) (wQ.setCell ⟨b, 1, none⟩ vQ)) := Lib.hid fun wQ vQ hb ho => by
      have h5 := H.out.push HSK.out HTT.out HN.out (by rw [HN1.out]; omega) hb (by rw [HN1.out]; exact ho)
      rwa [HM.out] at h5
    have hRR : ¬ R ≤ n1 := hR
    clear hR
    rcases h.at' with ⟨rfl, rfl, hL⟩ | ⟨g, off, rfl, hg, hgb, hr⟩
    · have hn0 : n1 = 0 := by rw [← HN1.out, hL]; rfl
      subst hn0
      have HNIL : Hid (∀ W : World, W.ownsRow w.heap.size 51 12 (.slice none 0 0) 0 (rowE slotA L)) := Lib.hid fun W => by rw [hL]; exact World.ownsRow_nil _ _ _ 12
      clear h hL
      unfold taskV
      go_enter Try.func40, Try.ntmps40
      go_upto_region 1 with (fail)
      rw [show w.alloc (.cells (taskA t (.slice As ns cs)) 51) = w1 from HW1.out.symm]
      go_quiet (fail)
      go_wp2_with fail
      have qd : ((w1.drewN (nq + 1)).alloc (.cells #[.int .i32 t.id, .int .i64 t.fn, .int .i64 t.pc, .slice As ns cs, .int .i32 t.v0, .int .i32 t.v1, .int .i32 t.v2, .int .i32 t.v3, .int .i64 t.lb, .int .i64 t.cl, .int .u32 t.pv, .int .i64 t.wk] 51)).cell? ⟨b, 1, none⟩ = some (.slice none 0 0) := ((below_alloc (w1.drewN (nq + 1)) _).cell (p := ⟨b, 1, none⟩) hb1s).trans c1
      go_region_law
        (refine step_append_itm 55 51 _ 12 96 Try.underlying55 inf_task rfl (by decide) (by decide) rfl (.tmp 20) (.tmp 22) rfl w.heap.size (.slice none 0 0) 0 (rowE slotA L) rfl (HNIL.out _) _ (taskA t (.slice As ns cs)) rfl ?_ rfl ?_ ?_ ?_ ?_
         · exact heap_alloc_new _ _
         · intro u hu; have := task_ones (t := t) (s := .slice As ns cs) rfl; rw [Array.all_eq_true'] at this; exact this u (Array.mem_toList_iff.1 hu)
         · omega
         · simp; omega
         intro vQ wQ oQ gQ bQ
         obtain ⟨gq, cq, hvq⟩ := own_succ oQ
         subst hvq
         have hbQ : Below w1.heap.size w1 wQ := ⟨gQ.os, gQ.tape, gQ.output, Nat.le_trans (by simp) gQ.size, fun k hk => (gQ.block k (by simp; omega) (fun e => by cases e)).trans (heap_alloc_old _ _ hk)⟩
         have cQ : wQ.cell? ⟨b, 1, none⟩ = some (.slice none 0 0) := cell_blk ((hbQ.block b (by omega)).trans HB1.out) 1
         have fQ : wQ.frozen? ⟨b, 1, none⟩ = false := frozen_blk ((hbQ.block b (by omega)).trans HB1.out) 1
         have HF := Lib.hid (HP.out wQ _ (nextB B1.out hbQ) oQ)
         clear oQ gQ bQ hbQ)
      all_goals
        go_wp2_with fail
        go_ret
        exact HF.out
    · have HCE : Hid (∀ W, Below w.heap.size w W → ∀ j u, (rowE slotA L)[j]? = some u → W.cell? ((⟨g, off, none⟩ : Addr).add j) = some u) := Lib.hid (fun W hb j u hu => by
        have ea : (⟨g, off, none⟩ : Addr).add j = ⟨g, off + j, none⟩ := by unfold Addr.add; split <;> simp_all
        rw [ea]; exact rangeAt_below hr hb j u hu)
      have HXL : Hid ((rowE slotA L).length = n1 * 12) := Lib.hid (by rw [rowE_length slotA_size, HN1.out])
      have HWO : Hid (∀ u ∈ rowE slotA L, u.oneCell' = true) := Lib.hid (by
        intro u hu
        obtain ⟨x, hx, hu⟩ := List.mem_flatMap.1 hu
        obtain ⟨A, c, e, _⟩ := (h.st x hx).1
        have h1 := task_ones (t := x.1) (s := x.2) (by rw [e]; rfl)
        rw [Array.all_eq_true'] at h1
        exact h1 u (show u ∈ taskA x.1 x.2 from Array.mem_toList_iff.1 hu))
      have HNIL : Hid (∀ W : World, W.ownsRow w.heap.size 51 12 (.slice none 0 0) 0 []) := Lib.hid fun W => World.ownsRow_nil _ _ _ 12
      clear h hr hg hgb
      unfold taskV
      go_enter Try.func40, Try.ntmps40
      go_upto_region 1 with (fail)
      rw [show w.alloc (.cells (taskA t (.slice As ns cs)) 51) = w1 from HW1.out.symm]
      go_quiet (fail)
      go_wp2_with fail
      have qd : ((w1.drewN (nq + 1)).alloc (.cells #[.int .i32 t.id, .int .i64 t.fn, .int .i64 t.pc, .slice As ns cs, .int .i32 t.v0, .int .i32 t.v1, .int .i32 t.v2, .int .i32 t.v3, .int .i64 t.lb, .int .i64 t.cl, .int .u32 t.pv, .int .i64 t.wk] 51)).cell? ⟨b, 1, none⟩ = some (.slice (some ⟨g, off, none⟩) n1 c) := ((below_alloc (w1.drewN (nq + 1)) _).cell (p := ⟨b, 1, none⟩) hb1s).trans c1
      have HB0 : Hid (Below w1.heap.size w1 (w1.drewN (nq + 1))) := Lib.hid (below_drewN (Below.refl _ _) _)
      have HB1' : Hid (Below w1.heap.size w1 ((w1.drewN (nq + 1)).alloc (.cells #[.int .i32 t.id, .int .i64 t.fn, .int .i64 t.pc, .slice As ns cs, .int .i32 t.v0, .int .i32 t.v1, .int .i32 t.v2, .int .i32 t.v3, .int .i64 t.lb, .int .i64 t.cl, .int .u32 t.pv, .int .i64 t.wk] 51))) := Lib.hid (nextB HB0.out (below_alloc _ _))
      have HTD : Hid (∀ W, Below w1.heap.size w1 W → W.heap[w.heap.size]? = some (.cells (taskA t (.slice As ns cs)) 51 (0, 0))) := Lib.hid fun W hb => (hb.block _ hs1).trans HT1.out
      go_region_law
        (first
          | (refine step_append_list 55 51 _ 12 96 Try.underlying55 inf_task rfl (by decide) (by decide) rfl (.const (.slice none 0 0)) (.tmp 19) rfl w.heap.size (.slice none 0 0) 0 [] rfl (HNIL.out _) ⟨g, off, none⟩ n1 c (rowE slotA L) rfl HXL.out ?_ HWO.out ?_ ?_ ?_
             · first | exact HCE.out _ (nextB B1.out HB0.out) | exact HCE.out _ (nextB B1.out HB1'.out)
             · omega
             · first | exact Nat.le_trans B1.out.size HB0.out.size | exact Nat.le_trans B1.out.size HB1'.out.size
             intro v3 w3 o3 g3 b3
             have HO3 : Hid (w3.ownsRow w.heap.size 51 12 v3 n1 (rowE slotA L)) := Lib.hid (by simpa using o3)
             have hb3 : Below w1.heap.size w1 w3 := by first | exact HB0.out.grown g3 HB0.out.size (fun k e => by cases e) | exact HB1'.out.grown g3 HB1'.out.size (fun k e => by cases e)
             have HB3 := Lib.hid hb3
             have HG3 := Lib.hid g3
             have hbx := HTD.out w3 hb3
             have p0 : w3.cell? ⟨w.heap.size, 0, none⟩ = some (.int .i32 t.id) := cell_blk hbx 0
             have p1 : w3.cell? ⟨w.heap.size, 1, none⟩ = some (.int .i64 t.fn) := cell_blk hbx 1
             have p2 : w3.cell? ⟨w.heap.size, 2, none⟩ = some (.int .i64 t.pc) := cell_blk hbx 2
             have p3 : w3.cell? ⟨w.heap.size, 3, none⟩ = some (.slice As ns cs) := cell_blk hbx 3
             have p4 : w3.cell? ⟨w.heap.size, 4, none⟩ = some (.int .i32 t.v0) := cell_blk hbx 4
             have p5 : w3.cell? ⟨w.heap.size, 5, none⟩ = some (.int .i32 t.v1) := cell_blk hbx 5
             have p6 : w3.cell? ⟨w.heap.size, 6, none⟩ = some (.int .i32 t.v2) := cell_blk hbx 6
             have p7 : w3.cell? ⟨w.heap.size, 7, none⟩ = some (.int .i32 t.v3) := cell_blk hbx 7
             have p8 : w3.cell? ⟨w.heap.size, 8, none⟩ = some (.int .i64 t.lb) := cell_blk hbx 8
             have p9 : w3.cell? ⟨w.heap.size, 9, none⟩ = some (.int .i64 t.cl) := cell_blk hbx 9
             have p10 : w3.cell? ⟨w.heap.size, 10, none⟩ = some (.int .u32 t.pv) := cell_blk hbx 10
             have p11 : w3.cell? ⟨w.heap.size, 11, none⟩ = some (.int .i64 t.wk) := cell_blk hbx 11
             clear o3 g3 b3 hb3 hbx)
          | (refine step_append_itm 55 51 _ 12 96 Try.underlying55 inf_task rfl (by decide) (by decide) rfl (.tmp 20) (.tmp 22) rfl w.heap.size v3 n1 (rowE slotA L) rfl ?_ _ (taskA t (.slice As ns cs)) rfl ?_ rfl ?_ ?_ ?_ ?_
             · first | exact HO3.out | exact HO3.out.alloc _
             · first | exact heap_alloc_new _ _ | exact (HG3.out.block _ (by simp) (fun e => by cases e)).trans (heap_alloc_new _ _)
             · intro u hu; have := task_ones (t := t) (s := .slice As ns cs) rfl; rw [Array.all_eq_true'] at this; exact this u (Array.mem_toList_iff.1 hu)
             · omega
             · first | exact Nat.le_trans B1.out.size HB3.out.size | exact Nat.le_trans (Nat.le_trans B1.out.size HB3.out.size) (below_alloc _ _).size
             intro vQ wQ oQ gQ bQ
             obtain ⟨gq, cq, hvq⟩ := own_succ oQ
             subst hvq
             have hv3 : ∀ k, v3.ownBlock = some k → w.heap.size ≤ k := fun k e => (World.ownsRow.lt HO3.out k e).1
             have hbQ : Below w.heap.size w wQ := by first | exact (nextB B1.out HB3.out).grown gQ (nextB B1.out HB3.out).size hv3 | exact (nextB (nextB B1.out HB3.out) (below_alloc _ _)).grown gQ (nextB (nextB B1.out HB3.out) (below_alloc _ _)).size hv3
             have hbk : wQ.heap[b]? = some (.cells #[.int .i64 R, .slice (some ⟨g, off, none⟩) n1 c] 74 (0, 0)) := (hbQ.block b hbl).trans HBK.out
             have cQ : wQ.cell? ⟨b, 1, none⟩ = some (.slice (some ⟨g, off, none⟩) n1 c) := cell_blk hbk 1
             have fQ : wQ.frozen? ⟨b, 1, none⟩ = false := frozen_blk hbk 1
             have HF := Lib.hid (HP.out wQ _ hbQ oQ)
             clear oQ gQ bQ hbQ hbk hv3))
      all_goals
        go_wp2_with fail
        go_ret
        exact HF.out

end Go.Proofs.Ytlmbjnegajiphaa
