/- input.New, for any lists. -/
import Derived.Test.YtnelaeafjejjgaaIn14
import Derived.Deep.RegionHeld3
import Derived.Deep.RegionLaw
namespace Go.Proofs.Ytnelaeafjejjgaa
set_option maxRecDepth 100000
open Go.RowKit

theorem inf_hdr32 : (Try.prog.info? 24).map (fun i => (i.zero, i.size, i.bytes)) = some (some (.slice none 0 0), 1, 24) := by kernel_rfl
theorem wp_append_hdr {w : World} {o : Oper} {a : Act} {K : Act → World → Prop} {Q : Exit → Act → World → Prop} (s x : Operand)
    (ho : o.op = .call { callee := .builtin .append, args := #[s, x], argTypes := #[22, 22] })
    (base : Nat) (v : Value) (n : Nat) (xs : List Value) (hs : a.eval s = v) (hown : w.ownsRow base 24 1 v n xs)
    (b : Nat) (u : Value) (hx : a.eval x = .slice (some ⟨b, 0, none⟩) 1 1) (hu : w.cell? ⟨b, 0, none⟩ = some u) (h1 : u.oneCell' = true)
    (hsz : n ≤ 1000000) (hbase : base ≤ w.heap.size)
    (h : ∀ v' w', w'.ownsRow base 24 1 v' (n + 1) (xs ++ [u]) → w.grownBy w' v.ownBlock → (v'.ownBlock = v.ownBlock ∨ v'.ownBlock = some w.heap.size) → K (a.put o.dst v') w') : o.wp Try.prog a w K Q := by
  obtain ⟨i0, hi, hz0, hz1, hz2⟩ := info_parts inf_hdr32
  obtain ⟨v', w', hr, h2, h3, h4, h5⟩ := run_append_own_at (P := Try.prog) w base 22 o.type 24 i0 _ 1 24 Try.underlying22 hi hz0 hz1 hz2 rfl (by decide) v n xs hown ⟨b, 0, none⟩ 1 1 [u] rfl
    (fun j y hy => by
      obtain rfl : j = 0 := by have := (List.getElem?_eq_some_iff.1 hy).1; simpa using this
      obtain rfl : u = y := by simpa using hy
      exact hu) (fun y hy => by obtain rfl : y = u := by simpa using hy
                                exact h1) (by unfold maxLen; omega) (by omega) hbase
  unfold Oper.wp execOp
  simp only [ho, resolve, invoke, builtin, Sem.run_bind, Sem.run_pure, Result.andThen_ok, List.map_toArray, List.map_cons, List.map_nil, hs, hx, hr]
  exact h v' w' h2 h3 h5
theorem step_append_hdr {w : World} {ops : Array Oper} {o : Oper} {a : Act} {K : Act → World → Prop} {Q : Exit → Act → World → Prop} {E : Prop} (hgd : o.guard = none) (s x : Operand)
    (ho : o.op = .call { callee := .builtin .append, args := #[s, x], argTypes := #[22, 22] })
    (base : Nat) (v : Value) (n : Nat) (xs : List Value) (hs : a.eval s = v) (hown : w.ownsRow base 24 1 v n xs)
    (b : Nat) (u : Value) (hx : a.eval x = .slice (some ⟨b, 0, none⟩) 1 1) (hu : w.cell? ⟨b, 0, none⟩ = some u) (h1 : u.oneCell' = true)
    (hsz : n ≤ 1000000) (hbase : base ≤ w.heap.size)
    (h : ∀ v' w', w'.ownsRow base 24 1 v' (n + 1) (xs ++ [u]) → w.grownBy w' v.ownBlock → (v'.ownBlock = v.ownBlock ∨ v'.ownBlock = some w.heap.size) → K (a.put o.dst v') w') :
    if Region.wanted o (yielded ops a.tmps) = true then Oper.wp Try.prog o a w K Q else E := by
  have hw : Region.wanted o (yielded ops a.tmps) = true := by simp [Region.wanted, hgd]
  rw [if_pos hw]
  exact wp_append_hdr s x ho base v n xs hs hown b u hx hu h1 hsz hbase h

/-- Inputs under way: block g holds v, a list of the call's own whose rows lie in blocks of their own. -/
structure InK (W w : World) (g : Nat) (v : Value) (rs : List Rw32) : Prop where
  blk : w.heap[g]? = some (.cells #[v] 64 (0, 0))
  own : w.ownsRow (g + 1) 24 1 v rs.length (hdrs32 rs)
  row : ∀ r ∈ rs, r.l.length ≤ r.c ∧ Lies w w.heap.size r.A (i32s r.l) ∧ ∀ b off, r.A = some ⟨b, off, none⟩ → g < b ∧ b < w.heap.size ∧ v.ownBlock ≠ some b
  old : Below W.heap.size W w
  lo : W.heap.size ≤ g
section
variable {W w w' : World} {g : Nat} {v : Value} {rs : List Rw32}
theorem InK.glt (h : InK W w g v rs) : g < w.heap.size := (Array.getElem?_eq_some_iff.1 h.blk).1
theorem InK.step (h : InK W w g v rs) (hb : Below w.heap.size w w') : InK W w' g v rs :=
  ⟨(hb.block g h.glt).trans h.blk, own_below h.own hb, fun r hr => ⟨(h.row r hr).1, ((h.row r hr).2.1.below hb).more hb.size, fun b off e => by have := (h.row r hr).2.2 b off e; have := hb.size; exact ⟨by omega, by omega, (h.row r hr).2.2 b off e |>.2.2⟩⟩, h.old.trans (hb.mono h.old.size), h.lo⟩
theorem InK.cell (h : InK W w g v rs) : w.cell? ⟨g, 0, none⟩ = some v := by rw [cell_blk h.blk]; rfl
/-- Behind the append and the store. -/
theorem InK.grown (h : InK W w g v rs) {v' : Value} {r : Rw32} (ho : w'.ownsRow (g + 1) 24 1 v' (rs.length + 1) (hdrs32 rs ++ [r.hdr])) (hg : w.grownBy w' v.ownBlock) (hv : v'.ownBlock = v.ownBlock ∨ v'.ownBlock = some w.heap.size)
    (hr : r.l.length ≤ r.c ∧ Lies w w.heap.size r.A (i32s r.l) ∧ ∀ b off, r.A = some ⟨b, off, none⟩ → g < b ∧ b < w.heap.size ∧ v.ownBlock ≠ some b) : InK W (w'.setCell ⟨g, 0, none⟩ v') g v' (rs ++ [r]) := by
  have hne : v.ownBlock ≠ some g := fun e => by have := (h.own.lt g e).1; omega
  have hb' : w'.heap[g]? = some (.cells #[v] 64 (0, 0)) := (hg.block g h.glt (fun e => hne e.symm)).trans h.blk
  have hrow : ∀ r' : Rw32, (r'.l.length ≤ r'.c ∧ Lies w w.heap.size r'.A (i32s r'.l) ∧ ∀ b off, r'.A = some ⟨b, off, none⟩ → g < b ∧ b < w.heap.size ∧ v.ownBlock ≠ some b) →
      r'.l.length ≤ r'.c ∧ Lies (w'.setCell ⟨g, 0, none⟩ v') (w'.setCell ⟨g, 0, none⟩ v').heap.size r'.A (i32s r'.l) ∧ ∀ b off, r'.A = some ⟨b, off, none⟩ → g < b ∧ b < (w'.setCell ⟨g, 0, none⟩ v').heap.size ∧ v'.ownBlock ≠ some b := fun r' ⟨a1, a2, a3⟩ => by
    refine ⟨a1, fun hn => ?_, fun b off e => ⟨(a3 b off e).1, by simp [World.setCell]; have := hg.size; have := a3 b off e; omega, ?_⟩⟩
    · obtain ⟨b, off, e, hb, hc⟩ := a2 hn
      have h3 := a3 b off e
      refine ⟨b, off, e, by simp [World.setCell]; have := hg.size; omega, fun j u hu => ?_⟩
      rw [← hc j u hu]
      exact World.cell?_of_block (w := w) ((Below.heap_setCell w' ⟨g, 0, none⟩ v' b (by show b ≠ g; omega)).trans (hg.block b hb (fun e => h3.2.2 e.symm)))
    · rcases hv with hv | hv
      · rw [hv]; exact (a3 b off e).2.2
      · rw [hv]
        intro e2
        injection e2 with e2
        have := (a3 b off e).2.1
        omega
  refine ⟨by have := set_blk hb' 0 v'; simpa using this, ?_, ?_, ?_, h.lo⟩
  · rw [List.length_append, show hdrs32 (rs ++ [r]) = hdrs32 rs ++ [r.hdr] from by simp [hdrs32]]
    exact ownsRow_setCell_below ho (by show g < g + 1; omega) v'
  · intro r' hm
    rcases List.mem_append.1 hm with hm | hm
    · exact hrow r' (h.row r' hm)
    · obtain rfl : r' = r := by simpa using hm
      exact hrow r' hr
  · exact (h.old.grown hg h.old.size (fun k hk => by have := (h.own.lt k hk).1; have := h.lo; omega)).setCell (by show W.heap.size ≤ g; exact h.lo) v'
end
theorem step_go14 {w : World} {ops : Array Oper} {o : Oper} {a : Act} {K : Act → World → Prop} {Q : Exit → Act → World → Prop} {E : Prop} (hgd : o.guard = none) (h : o.wp Try.prog a w K Q) :
    if Region.wanted o (yielded ops a.tmps) = true then Oper.wp Try.prog o a w K Q else E := by
  have hw : Region.wanted o (yielded ops a.tmps) = true := by simp [Region.wanted, hgd]
  rw [if_pos hw]
  exact h
theorem InK.kept {W w w' : World} {g : Nat} {v : Value} {rs : List Rw32} (h : InK W w g v rs) (hg : w.grownBy w' v.ownBlock) : w'.heap[g]? = some (.cells #[v] 64 (0, 0)) :=
  (hg.block g h.glt (fun e => by have := (h.own.lt g e.symm).1; omega)).trans h.blk
theorem below_undrew14 {B : Nat} {w w' : World} (h : Below B w.drew w') : Below B w w' := ⟨h.os, h.tape, h.output, h.size, h.block⟩
def MadeIn (w : World) (rs : List Rw32) (e : Ending) (w' : World) : Prop := ∃ g v rs', e = .returned (.pointer (some ⟨g, 0, none⟩)) ∧ InK w w' g v rs' ∧ listsOf rs' = listsOf rs
def InR (w wr : World) (g N : Nat) (rs : List Rw32) (i : Value) : Prop := ∃ (k : Nat) (vk : Value) (rs' : List Rw32), k ≤ N ∧ i = .int .i64 k ∧ InK w wr g vk rs' ∧ listsOf rs' = listsOf (rs.take k) ∧ rs'.length = k

set_option maxRecDepth 100000 in
set_option maxHeartbeats 8000000 in
theorem newInput_any (v : Value) (rs : List Rw32) (w : World) (h : Tab32 w w.heap.size v rs) (hn : rs.length ≤ 1000) (hm : ∀ r ∈ rs, r.l.length ≤ 100000) :
    Calls Try.prog 16 #[v] w (MadeIn w rs) := by
  obtain ⟨A, c, rfl, hl, hr⟩ := h
  have HL := Lib.hid hl; have HR := Lib.hid hr; have HM := Lib.hid hm
  clear hl hr hm
  obtain ⟨N, hN⟩ : ∃ N, rs.length = N := ⟨_, rfl⟩
  have HN := Lib.hid hN
  rw [hN] at hn ⊢
  clear hN
  have H0 : Hid (InK w (w.alloc (.cells #[.slice none 0 0] 64)) w.heap.size (.slice none 0 0) []) := Lib.hid
    ⟨heap_alloc_new w _, World.ownsRow_nil _ _ _ 1, (fun r hr => by cases hr), below_alloc w _, Nat.le_refl _⟩
  obtain ⟨w0, hw0⟩ : ∃ w0, w0 = w.alloc (.cells #[.slice none 0 0] 64) := ⟨_, rfl⟩
  have HW0 := Lib.hid hw0
  rw [← hw0] at H0
  clear hw0
  obtain ⟨g, hg⟩ : ∃ g, g = w.heap.size := ⟨_, rfl⟩
  have HG := Lib.hid hg
  go_enter Try.func16, Try.ntmps16
  go_wp2_with fail
  rw [← HW0.out, ← hg]
  rw [← hg] at H0
  clear hg
  go_loopw [10] (fun i wr => InR w wr g N rs i) (fun i _ => N - (intOf i).toNat)
  case atStart => exact ⟨0, _, [], Nat.zero_le _, rfl, H0.out, rfl, rfl⟩
  case round =>
    obtain ⟨k, vk, rs', hk, rfl, hin, hls, hlen⟩ := hrel
    clear H0
    have HH := Lib.hid hin; have HLS := Lib.hid hls; have HLEN := Lib.hid hlen
    obtain ⟨Av, cv, rfl, _, _, _, _, _⟩ := Lies.of_own hin.own
    clear hin hls hlen
    by_cases hkn : k < N
    · have hkl : k < rs.length := by rw [HN.out]; exact hkn
      obtain ⟨b, off, rfl, hb, c1⟩ := tab_row HL.out hkl
      have c2 : wr.cell? ⟨b, off + k, none⟩ = some (.slice rs[k].A rs[k].l.length rs[k].c) := by
        rw [HH.out.old.cell (p := ⟨b, off + k, none⟩) hb, c1]
      have hrow := HR.out rs[k] (List.getElem_mem hkl)
      have hml := HM.out rs[k] (List.getElem_mem hkl)
      have HTK := Lib.hid (List.take_succ_eq_append_getElem hkl)
      clear c1
      generalize rs[k] = r at *
      have HC := Lib.hid (fun (wi : World) (hb : Below w.heap.size w wi) => clone_any (.slice r.A r.l.length r.c) r.l wi ⟨r.A, r.c, rfl, hrow.1, (hrow.2.below hb).more hb.size⟩ hml)
      obtain ⟨m, hm⟩ : ∃ m, r.l.length = m := ⟨_, rfl⟩
      have HMM := Lib.hid hm
      rw [hm] at c2 HC
      obtain ⟨nv, hnv⟩ : ∃ nv, rs'.length = nv := ⟨_, rfl⟩
      have HNV := Lib.hid hnv
      rw [hnv] at HH
      clear hrow hml hm hnv
      have c0 := HH.out.cell
      have HLE : Hid (nv ≤ 1000000) := Lib.hid (by have := HLEN.out; have := HNV.out; omega)
      go_wp2_with fail
      go_region_law
        (first
          | (refine step_go14 rfl ?_; go_simp; refine (HC.out _ HH.out.old.drew).mono ?_; rintro e wA ⟨⟨vA, rfl, ho⟩, hbA⟩; have hlo := Lies.of_own ho; obtain ⟨A1, c1', rfl, hcA, _, _, hlA, hbl⟩ := hlo; have hA := (HH.out.step (below_undrew14 hbA)).step (below_alloc wA (.cells #[.slice A1 r.l.length c1'] 24)); have hH := HH.out.step (below_undrew14 hbA); have cA := hH.cell; have cA2 := hA.cell)
          | (refine step_append_hdr rfl (.tmp 18) (.tmp 21) rfl (g + 1) _ nv _ rfl (HNV.out ▸ hA.own) _ _ rfl (by rw [cell_blk (heap_alloc_new _ _)]; rfl) rfl HLE.out (by have := hH.glt; simp; omega) ?_; intro vQ wQ oQ gQ bQ; obtain ⟨AQ, cQQ, rfl, _, _, _, _, _⟩ := Lies.of_own oQ; have kQ := hA.kept gQ; have cQ : wQ.cell? ⟨g, 0, none⟩ = some (.slice Av nv cv) := by rw [cell_blk kQ]; rfl
             have fQ : wQ.frozen? ⟨g, 0, none⟩ = false := frozen_blk kQ 0))
      all_goals
        have HIN := Lib.hid (hA.grown (r := ⟨A1, c1', r.l⟩) (by rw [HNV.out]; exact oQ) gQ bQ ⟨hcA, (hlA.below (below_alloc _ _)).more (by simp), fun b off e => by
          have h1 := hbl b off e
          have h2 := HH.out.glt
          have h3 : wr.heap.size ≤ b := h1.1
          refine ⟨by omega, by simp; omega, fun e2 => ?_⟩
          have h4 := (HH.out.own.lt b e2).2
          omega⟩)
        clear hA hH oQ gQ bQ hbl hlA hcA cQ fQ kQ cA cA2
        go_wp2_with fail
        go_roundw
        case rel => exact ⟨k + 1, _, rs' ++ [⟨A1, c1', r.l⟩], by omega, by go_num, HIN.out, by rw [HTK.out]; simp only [listsOf, List.map_append, List.map_cons, List.map_nil] at HLS ⊢; rw [HLS.out], by rw [List.length_append, HLEN.out]; rfl⟩
        case measure => simp [intOf]; omega
    · obtain rfl : k = N := by omega
      have HF : Hid (listsOf rs' = listsOf rs) := Lib.hid (by rw [HLS.out, List.take_of_length_le (by rw [HN.out]; omega)])
      go_wp2_with fail
      go_ret
      exact ⟨g, _, rs', rfl, HH.out, HF.out⟩

end Go.Proofs.Ytnelaeafjejjgaa
