/- Package park in memory: New, Len, Add. -/
import Derived.Test.YtboelofkbhgmfaaStk
import Derived.Test.YtboelofkbhgmfaaApq
import Derived.Test.YtboelofkbhgmfaaFut13
namespace Go.Proofs.Ytboelofkbhgmfaa
set_option maxRecDepth 100000
open Go.RowKit

/-- Who waits: a task with its stack's value, and a future's identity. -/
abbrev WaitX := SlotX × Int
def waitA (x : WaitX) : Array Value := #[.int .i32 x.1.1.id, .int .i64 x.1.1.fn, .int .i64 x.1.1.pc, x.1.2, .int .i32 x.1.1.v0, .int .i32 x.1.1.v1, .int .i32 x.1.1.v2, .int .i32 x.1.1.v3, .int .i64 x.1.1.lb, .int .i64 x.1.1.cl, .int .u32 x.1.1.pv, .int .i64 x.1.1.wk, .int .i32 x.2]
theorem waitA_size (x : WaitX) : (waitA x).size = 13 := rfl
theorem wait_ones {x : WaitX} (h : x.1.2.oneCell' = true) : ∀ u ∈ (waitA x).toList, u.oneCell' = true := by
  intro u hu
  simp [waitA] at hu
  rcases hu with rfl | rfl | rfl | rfl | rfl | rfl | rfl | rfl | rfl | rfl | rfl | rfl | rfl <;> first | rfl | exact h
theorem inf_wait : (Try.prog.info? 101).map (fun i => (i.zero, i.size, i.bytes)) = some (some (.agg #[.int .i32 0, .int .i64 0, .int .i64 0, .slice none 0 0, .int .i32 0, .int .i32 0, .int .i32 0, .int .i32 0, .int .i64 0, .int .i64 0, .int .u32 0, .int .i64 0, .int .i32 0]), 13, 104) := by kernel_rfl
theorem info_wait : (Try.prog.info? 101).map (·.size) = some 13 := by kernel_rfl
/-- The park: block a its struct, v its list, L what it holds; S its blocks. -/
structure PkK (w : World) (S : Nat → Prop) (a : Nat) (v : Value) (L : List WaitX) : Prop where
  blk : w.heap[a]? = some (.cells #[v] 130 (0, 0))
  own : w.ownsRow 0 101 13 v L.length (rowE waitA L)
  vS : ∀ b, v.ownBlock = some b → S b ∧ b ≠ a
  st : ∀ x ∈ L, StkV w (fun b => S b ∧ b ≠ a ∧ v.ownBlock ≠ some b) x.1 ∧ x.1.1.st.length ≤ 100000
  aS : S a
  lt : ∀ b, S b → b < w.heap.size
section
variable {w w' : World} {S T : Nat → Prop} {a : Nat} {v : Value} {L : List WaitX}
theorem PkK.keep (h : PkK w S a v L) (hf : Frm T w w') (hd : ∀ i, S i → ¬ T i) : PkK w' S a v L :=
  ⟨(hf.block a (h.lt a h.aS) (hd a h.aS)).trans h.blk, ownsRow_keep h.own fun b hb => hf.block b (h.lt b (h.vS b hb).1) (hd b (h.vS b hb).1), h.vS,
    fun x hx => ⟨(h.st x hx).1.keep hf (fun i hi => hd i hi.1) (fun _ _ h => h) (fun i hi => h.lt i hi.1), (h.st x hx).2⟩, h.aS, fun b hb => Nat.lt_of_lt_of_le (h.lt b hb) hf.size⟩
theorem PkK.below (h : PkK w S a v L) (hb : Below w.heap.size w w') : PkK w' S a v L := h.keep (T := fun _ => False) (Frm.of_below hb) fun _ _ => id
theorem PkK.shape (h : PkK w S a v L) : ∃ A c, v = .slice A L.length c ∧ L.length ≤ c := by
  rcases h.own.2 with ⟨h1, h2⟩ | ⟨g, cap, _, hv, _, _, hn, _⟩
  · exact ⟨none, 0, by rw [h1, h2], by omega⟩
  · exact ⟨_, cap, hv, hn⟩
theorem PkK.range (h : PkK w S a v L) {j : Nat} (hj : j < L.length) : ∃ g c, v = .slice (some ⟨g, 0, none⟩) L.length c ∧ g < w.heap.size ∧ w.rangeAt g (j * 13) (waitA L[j]).toList := by
  rcases h.own.2 with ⟨h1, h2⟩ | ⟨g, cap, _, hv, _⟩
  · omega
  · subst hv
    refine ⟨g, cap, rfl, h.lt g (h.vS g rfl).1, fun i u hu => ?_⟩
    have h1 := rowE_get waitA_size (List.getElem?_eq_getElem hj) (j := i) (u := u) (by simpa using hu)
    have h2 := h.own.cells (g := g) rfl _ _ h1
    have ea : (⟨g, 0, none⟩ : Addr).add (j * 13 + i) = ⟨g, j * 13 + i, none⟩ := by unfold Addr.add; split <;> simp_all
    rwa [ea] at h2
/-- Behind Add. -/
theorem PkK.add (h : PkK w S a v L) {w1 wA wQ : World} {vQ : Value} {t : TK} {s' : Value} {id : Int} (hn : t.st.length ≤ 100000) (h1 : w.heap.size ≤ w1.heap.size) (hb : Below w.heap.size w wA)
    (ho : Own32 wA w1.heap.size s' t.st) (oQ : wQ.ownsRow 0 101 13 vQ (L.length + 1) (rowE waitA L ++ (waitA ((t, s'), id)).toList))
    (gQ : wA.grownBy wQ v.ownBlock) (bQ : vQ.ownBlock = v.ownBlock ∨ ∃ k, vQ.ownBlock = some k ∧ wA.heap.size ≤ k) :
    ∃ S', PkK (wQ.setCell ⟨a, 0, none⟩ vQ) S' a vQ (L ++ [((t, s'), id)]) ∧ Stp S S' w (wQ.setCell ⟨a, 0, none⟩ vQ) := by
  have hv : ∀ b, v.ownBlock = some b → S b ∧ b ≠ a ∧ b < w.heap.size := fun b e => ⟨(h.vS b e).1, (h.vS b e).2, h.lt b (h.vS b e).1⟩
  have hs : ∀ b, s'.ownBlock = some b → w1.heap.size ≤ b ∧ b < wA.heap.size := fun b e => World.ownsRow.lt ho b e
  have hla := h.lt a h.aS
  have hsz := hb.size
  have hgs := gQ.size
  have hq : ∀ b, vQ.ownBlock = some b → (v.ownBlock = some b ∨ wA.heap.size ≤ b) ∧ b < wQ.heap.size := fun b e => by
    refine ⟨?_, (World.ownsRow.lt oQ b e).2⟩
    rcases bQ with e2 | ⟨k, e2, h4⟩
    · exact .inl (e2.symm.trans e)
    · rw [e2] at e; injection e with e; exact .inr (by omega)
  have hset : ∀ b, b ≠ a → (wQ.setCell ⟨a, 0, none⟩ vQ).heap[b]? = wQ.heap[b]? := fun b hb => Below.heap_setCell _ _ _ _ hb
  have hsz2 : (wQ.setCell ⟨a, 0, none⟩ vQ).heap.size = wQ.heap.size := by simp [World.setCell]
  have hF : Frm (fun b => b = a ∨ v.ownBlock = some b) w (wQ.setCell ⟨a, 0, none⟩ vQ) := by
    refine ⟨gQ.os.trans hb.os, gQ.tape.trans hb.tape, gQ.output.trans hb.output, by rw [hsz2]; omega, fun k hk hne => ?_⟩
    rw [hset k (fun e => hne (.inl e))]
    exact (gQ.block k (by omega) (fun e => hne (.inr e.symm))).trans (hb.block k hk)
  refine ⟨fun b => S b ∨ vQ.ownBlock = some b ∨ s'.ownBlock = some b, ⟨?_, ?_, ?_, ?_, .inl h.aS, ?_⟩, ?_, ?_, ?_⟩
  · have e1 := (gQ.block a (by omega) (fun e => (hv a e.symm).2.1 rfl)).trans ((hb.block a hla).trans h.blk)
    rw [set_blk e1]; rfl
  · rw [List.length_append, rowE_append, rowE_one]
    exact ownsRow_keep oQ fun b e => hset b (fun e2 => by
      subst e2
      rcases (hq b e).1 with e3 | e3
      · exact (hv b e3).2.1 rfl
      · omega)
  · intro b e
    refine ⟨.inr (.inl e), fun e2 => ?_⟩
    subst e2
    rcases (hq b e).1 with e3 | e3
    · exact (hv b e3).2.1 rfl
    · omega
  · intro x hx
    rw [List.mem_append, List.mem_singleton] at hx
    rcases hx with hx | rfl
    · refine ⟨(h.st x hx).1.keep hF (fun b hb e => ?_) (fun b hlt hb => ⟨.inl hb.1, hb.2.1, fun e => ?_⟩) (fun b hb => h.lt b hb.1), (h.st x hx).2⟩
      · rcases e with e | e
        · exact hb.2.1 e
        · exact hb.2.2 e
      · rcases (hq b e).1 with e3 | e3
        · exact hb.2.2 e3
        · omega
    · refine ⟨?_, hn⟩
      have ho2 : Own32 (wQ.setCell ⟨a, 0, none⟩ vQ) w1.heap.size s' t.st := ownsRow_keep ho fun b e => by
        have := hs b e
        rw [hset b (by omega)]
        exact gQ.block b (by omega) (fun e2 => by have := (hv b e2.symm).2.2; omega)
      obtain ⟨A, c, e, hn, _, _, hl, hbk⟩ := Lies.of_own ho2
      refine ⟨A, c, e, hn, hl, fun b off e2 => ?_⟩
      have e3 : s'.ownBlock = some b := by rw [e, e2]; rfl
      have := hs b e3
      refine ⟨.inr (.inr e3), by omega, fun e4 => ?_⟩
      rcases (hq b e4).1 with e5 | e5
      · have := (hv b e5).2.2; omega
      · omega
  · intro b hb
    rw [hsz2]
    rcases hb with hb | hb | hb
    · have := h.lt b hb; omega
    · exact (hq b hb).2
    · have := hs b hb; omega
  · refine hF.more fun i _ hi => ?_
    rcases hi with rfl | hi
    · exact h.aS
    · exact (hv i hi).1
  · intro i hi hS
    rcases hS with hS | hS | hS
    · exact hS
    · rcases (hq i hS).1 with e | e
      · exact (hv i e).1
      · omega
    · have := hs i hS; omega
  · intro b hb
    rw [hsz2]
    rcases hb with hb | hb | hb
    · have := h.lt b hb; omega
    · exact (hq b hb).2
    · have := hs b hb; omega
end
/-- A new park. -/
def PkNew (w : World) (e : Ending) (w' : World) : Prop := ∃ S a, e = .returned (.pointer (some ⟨a, 0, none⟩)) ∧ PkK w' S a (.slice none 0 0) [] ∧ (∀ i, S i → w.heap.size ≤ i) ∧ Below w.heap.size w w'
theorem pkNew_any (w : World) : Calls Try.prog 43 #[] w (PkNew w) := by
  go_enter Try.func43, Try.ntmps43
  go_wp2_with fail
  go_ret
  exact ⟨fun b => b = w.heap.size, w.heap.size, rfl, ⟨heap_alloc_new w _, World.ownsRow_nil _ 0 _ 13, (fun b e => by cases e), (fun x hx => by simp at hx), rfl, (fun b e => by subst e; simp)⟩, (fun i e => by subst e; exact Nat.le_refl _), below_alloc w _⟩
section
variable {w : World} {S : Nat → Prop} {a : Nat} {v : Value} {L : List WaitX}
theorem pkLen_any (h : PkK w S a v L) : Calls Try.prog 49 #[.pointer (some ⟨a, 0, none⟩)] w fun e w' => e = .returned (.int .i64 L.length) ∧ w = w' := by
  obtain ⟨A, c, rfl, _⟩ := h.shape
  have c0 : w.cell? ⟨a, 0, none⟩ = some (.slice A L.length c) := cell_blk h.blk 0
  clear h
  generalize L.length = n at *
  go_enter Try.func49, Try.ntmps49
  go_wp2_with fail
  go_ret
  exact ⟨rfl, rfl⟩
def PkAdd (w : World) (S : Nat → Prop) (a : Nat) (L : List WaitX) (t : TK) (id : Int) (e : Ending) (w' : World) : Prop :=
  e = .returned (.tuple #[]) ∧ ∃ v' s' S', PkK w' S' a v' (L ++ [((t, s'), id)]) ∧ Stp S S' w w'
set_option maxRecDepth 100000 in
set_option maxHeartbeats 16000000 in
theorem pkAdd_any (h : PkK w S a v L) (hL : L.length ≤ 100000) (t : TK) (s : Value) (id : Int) (hs : I32V w w.heap.size s t.st) (hn : t.st.length ≤ 100000) :
    Calls Try.prog 44 #[.pointer (some ⟨a, 0, none⟩), taskV t s, .int .i32 id] w (PkAdd w S a L t id) := by
  have H := Lib.hid h
  obtain ⟨A, c, e1, _⟩ := h.shape
  have HN := Lib.hid hn
  have HVO := Lib.hid (fun b e => (⟨(h.vS b e).2, h.lt b (h.vS b e).1⟩ : b ≠ a ∧ b < w.heap.size))
  have hla := h.lt a h.aS
  obtain ⟨w1, hw1⟩ : ∃ w1, w1 = w.alloc (.cells (taskA t s) 89) := ⟨_, rfl⟩
  have B1 : Hid (Below w.heap.size w w1) := Lib.hid (by rw [hw1]; exact below_alloc w _)
  have HOT : Hid (∀ w', Below w1.heap.size w1 w' → Calls Try.prog 71 #[.agg #[.int .i32 t.id, .int .i64 t.fn, .int .i64 t.pc, s, .int .i32 t.v0, .int .i32 t.v1, .int .i32 t.v2, .int .i32 t.v3, .int .i64 t.lb, .int .i64 t.cl, .int .u32 t.pv, .int .i64 t.wk]] w' (TD w' t)) :=
    Lib.hid (fun w' (hb : Below w1.heap.size w1 w') => ownTask_any t s w' (hs.later (B1.out.trans (hb.mono B1.out.size))) hn)
  have K0 : w1.heap[w.heap.size]? = some (.cells (taskA t s) 89 (0, 0)) := by rw [hw1]; exact heap_alloc_new w _
  have d0 : w1.cell? ⟨w.heap.size, 0, none⟩ = some (.int .i32 t.id) := cell_blk K0 0
  have d1 : w1.cell? ⟨w.heap.size, 1, none⟩ = some (.int .i64 t.fn) := cell_blk K0 1
  have d2 : w1.cell? ⟨w.heap.size, 2, none⟩ = some (.int .i64 t.pc) := cell_blk K0 2
  have d3 : w1.cell? ⟨w.heap.size, 3, none⟩ = some s := cell_blk K0 3
  have d4 : w1.cell? ⟨w.heap.size, 4, none⟩ = some (.int .i32 t.v0) := cell_blk K0 4
  have d5 : w1.cell? ⟨w.heap.size, 5, none⟩ = some (.int .i32 t.v1) := cell_blk K0 5
  have d6 : w1.cell? ⟨w.heap.size, 6, none⟩ = some (.int .i32 t.v2) := cell_blk K0 6
  have d7 : w1.cell? ⟨w.heap.size, 7, none⟩ = some (.int .i32 t.v3) := cell_blk K0 7
  have d8 : w1.cell? ⟨w.heap.size, 8, none⟩ = some (.int .i64 t.lb) := cell_blk K0 8
  have d9 : w1.cell? ⟨w.heap.size, 9, none⟩ = some (.int .i64 t.cl) := cell_blk K0 9
  have d10 : w1.cell? ⟨w.heap.size, 10, none⟩ = some (.int .u32 t.pv) := cell_blk K0 10
  have d11 : w1.cell? ⟨w.heap.size, 11, none⟩ = some (.int .i64 t.wk) := cell_blk K0 11
  have H1 := Lib.hid (h.below B1.out)
  have c0 : w1.cell? ⟨a, 0, none⟩ = some v := cell_blk H1.out.blk 0
  have HOW : Hid (w1.ownsRow 0 101 13 v L.length (rowE waitA L)) := Lib.hid H1.out.own
  obtain ⟨n, hnn⟩ : ∃ n, L.length = n := ⟨_, rfl⟩
  have HNN := Lib.hid hnn
  obtain ⟨As, ns, cs, e2⟩ : ∃ A n c, s = .slice A n c := by obtain ⟨A, c, e, _⟩ := hs; exact ⟨A, _, c, e⟩
  have hla1 : a < w1.heap.size := H1.out.lt a H1.out.aS
  have hsz1 := B1.out.size
  rw [hnn] at e1 HOW hL
  subst e2 e1
  have HW1 := Lib.hid hw1
  clear h hs K0 hw1 hnn
  unfold taskV taskA
  go_enter Try.func44, Try.ntmps44
  go_wp2_with fail
  rw [show w.alloc (.cells #[.int .i32 t.id, .int .i64 t.fn, .int .i64 t.pc, .slice As ns cs, .int .i32 t.v0, .int .i32 t.v1, .int .i32 t.v2, .int .i32 t.v3, .int .i64 t.lb, .int .i64 t.cl, .int .u32 t.pv, .int .i64 t.wk] 89) = w1 from HW1.out.symm]
  go_region_law
    (first
      | (refine step_go rfl ?_; go_simp; (with_reducible refine (HOT.out _ ?_).mono ?_); exact ⟨rfl, rfl, rfl, Nat.le_refl _, fun _ _ => rfl⟩; rintro e wA ⟨⟨s', rfl, ho⟩, hbA⟩; obtain ⟨A1, n1, c1, rfl⟩ := ho.shape
         have hbB : Below w1.heap.size w1 wA := ⟨hbA.os, hbA.tape, hbA.output, hbA.size, hbA.block⟩
         have HOA : Hid (wA.ownsRow 0 101 13 (.slice A n c) n (rowE waitA L)) := Lib.hid (ownsRow_keep HOW.out fun b e => hbB.block b (by have := (HVO.out b e).2; omega))
         have cA : wA.cell? ⟨a, 0, none⟩ = some (.slice A n c) := (hbB.cell (p := ⟨a, 0, none⟩) hla1).trans c0
         have fA : wA.frozen? ⟨a, 0, none⟩ = false := (hbB.frozen (p := ⟨a, 0, none⟩) hla1).trans (frozen_blk H1.out.blk 0)
         have HSA : Hid (w1.heap.size ≤ wA.heap.size) := Lib.hid hbB.size
         have laA : a < wA.heap.size := Nat.lt_of_lt_of_le hla1 hbB.size
         have HHA : Hid (Own32 wA w1.heap.size (.slice A1 n1 c1) t.st ∧ Below w1.heap.size w1 wA) := Lib.hid ⟨ho, hbB⟩
         clear ho hbA hbB
         simp only [taskV, taskA])
      | (refine step_append_itm 98 101 _ 13 104 Try.underlying98 inf_wait rfl (by decide) (by decide) rfl (.tmp 10) (.tmp 15) rfl 0 (.slice A n c) n (rowE waitA L) rfl ?_ _ (waitA ((t, .slice A1 n1 c1), id)) rfl ?_ rfl ?_ ?_ ?_ ?_
         · exact HOA.out.alloc _
         · exact heap_alloc_new _ _
         · exact wait_ones rfl
         · omega
         · exact Nat.zero_le _
         intro vQ wQ oQ gQ bQ
         obtain ⟨g3, p3, rfl⟩ := own_succ oQ
         have cQ : wQ.cell? ⟨a, 0, none⟩ = some (.slice A n c) := grown_cell (below_alloc _ _) gQ cA (by have := HSA.out; omega) (fun e => (HVO.out a e).1 rfl)
         have fQ : wQ.frozen? ⟨a, 0, none⟩ = false := grown_frozen (below_alloc _ _) gQ fA (by have := HSA.out; omega) (fun e => (HVO.out a e).1 rfl)))
  all_goals
    have HF := Lib.hid (H.out.add (id := id) HN.out hsz1 (B1.out.trans (HHA.out.2.mono hsz1)) HHA.out.1 (by rw [HNN.out]; exact oQ) (grown_of (below_alloc _ _) gQ) (by rcases bQ with e | e; exact .inl e; exact .inr ⟨_, e, by simp⟩))
    clear oQ gQ bQ cQ fQ
    go_wp2_with fail
    exact bodyPost_end (by simp [results, Try.results44, go_sem]) rfl ⟨rfl, _, _, HF.out⟩
end

end Go.Proofs.Ytboelofkbhgmfaa
