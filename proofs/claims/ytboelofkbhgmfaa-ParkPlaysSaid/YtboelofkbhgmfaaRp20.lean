/- The reference's park: Look. -/
import Derived.Test.YtboelofkbhgmfaaLk20
import Derived.Test.YtboelofkbhgmfaaRgF12
namespace Go.Proofs.Ytboelofkbhgmfaa
set_option maxRecDepth 100000
open Go.RowKit

theorem inf_waitR : (Try.prog.info? 92).map (fun i => (i.zero, i.size, i.bytes)) = some (some (.agg #[.int .i32 0, .int .i64 0, .int .i64 0, .slice none 0 0, .int .i32 0, .int .i32 0, .int .i32 0, .int .i32 0, .int .i64 0, .int .i64 0, .int .u32 0, .int .i64 0, .int .i32 0]), 13, 104) := by kernel_rfl
theorem info_waitR : (Try.prog.info? 92).map (·.size) = some 13 := by kernel_rfl
/-- A list of the reference's who wait, of the call's own. -/
def OwnWR (w : World) (base : Nat) (v : Value) (L : List WaitX) : Prop := w.ownsRow base 92 13 v L.length (rowE waitA L)
theorem OwnWR.snoc {w : World} {base n : Nat} {v : Value} {L : List WaitX} {x : WaitX} (hn : n = L.length) (h : w.ownsRow base 92 13 v (n + 1) (rowE waitA L ++ (waitA x).toList)) : OwnWR w base v (L ++ [x]) := by
  subst hn
  unfold OwnWR
  rw [List.length_append, rowE_append, rowE_one]
  exact h
theorem OwnWR.shape {w : World} {base : Nat} {v : Value} {L : List WaitX} (h : OwnWR w base v L) : ∃ A c, v = .slice A L.length c := by
  rcases h.2 with ⟨h1, h2⟩ | ⟨g, cap, _, hv, _⟩
  · exact ⟨none, 0, by rw [h1, h2]⟩
  · exact ⟨_, cap, hv⟩
/-- The reference's park: block b its struct, v its list, in blocks of S. -/
structure RpK (w : World) (S : Nat → Prop) (b : Nat) (v : Value) (L : List WaitX) : Prop where
  blk : w.heap[b]? = some (.cells #[v] 83 (0, 0))
  own : OwnWR w 0 v L
  vS : ∀ k, v.ownBlock = some k → S k ∧ k ≠ b
  nst : ∀ x ∈ L, x.1.2 = nilV
  bS : S b
  lt : ∀ k, S k → k < w.heap.size
section
variable {w w' : World} {S T : Nat → Prop} {b : Nat} {v : Value} {L : List WaitX}
theorem RpK.keep (h : RpK w S b v L) (hf : Frm T w w') (hd : ∀ i, S i → ¬ T i) : RpK w' S b v L :=
  ⟨(hf.block b (h.lt b h.bS) (hd b h.bS)).trans h.blk, ownsRow_keep h.own fun k hk => hf.block k (h.lt k (h.vS k hk).1) (hd k (h.vS k hk).1), h.vS, h.nst, h.bS, fun k hk => Nat.lt_of_lt_of_le (h.lt k hk) hf.size⟩
theorem RpK.below (h : RpK w S b v L) (hb : Below w.heap.size w w') : RpK w' S b v L := h.keep (T := fun _ => False) (Frm.of_below hb) fun _ _ => id
theorem RpK.range (h : RpK w S b v L) {j : Nat} (hj : j < L.length) : ∃ g c, v = .slice (some ⟨g, 0, none⟩) L.length c ∧ g < w.heap.size ∧ w.rangeAt g (j * 13) (waitA L[j]).toList := by
  have ho := h.own
  unfold OwnWR at ho
  rcases ho.2 with ⟨h1, h2⟩ | ⟨g, cap, _, hv, _⟩
  · omega
  · subst hv
    refine ⟨g, cap, rfl, h.lt g (h.vS g rfl).1, fun i u hu => ?_⟩
    have h1 := rowE_get waitA_size (List.getElem?_eq_getElem hj) (j := i) (u := u) (by simpa using hu)
    have h2 := ho.cells (g := g) rfl _ _ h1
    have ea : (⟨g, 0, none⟩ : Addr).add (j * 13 + i) = ⟨g, j * 13 + i, none⟩ := by unfold Addr.add; split <;> simp_all
    rwa [ea] at h2
end
theorem task_of_waitR {w : World} {g : Nat} {x : WaitX} (h : w.heap[g]? = some (.cells (waitA x) 92 (0, 0))) : w.rangeAt g 0 (taskA x.1.1 x.1.2).toList := fun j u hu => by
  rw [Nat.zero_add, cell_blk h]
  have hj := (List.getElem?_eq_some_iff.1 hu).1
  have hj12 : j < 12 := hj
  rw [← hu]
  rcases (by omega : j = 0 ∨ j = 1 ∨ j = 2 ∨ j = 3 ∨ j = 4 ∨ j = 5 ∨ j = 6 ∨ j = 7 ∨ j = 8 ∨ j = 9 ∨ j = 10 ∨ j = 11) with rfl | rfl | rfl | rfl | rfl | rfl | rfl | rfl | rfl | rfl | rfl | rfl <;> rfl
section
variable {ops : Array Oper} {rest : List Oper} {o : Oper} {a : Act} {w : World} {Q : Exit → Act → World → Prop}
theorem load_waitMidR (hgd : o.guard = none) (x : Operand) (ho : o.op = .load 92 x) (g off : Nat) (y : WaitX) (hx : a.eval x = .pointer (some ⟨g, off, none⟩)) (hg : w.rangeAt g off (waitA y).toList)
    (h : wpList Try.prog ops Q rest (a.put o.dst (.agg (waitA y))) w) : wpList Try.prog ops Q (o :: rest) a w :=
  wpList_load_mid hgd _ x ho g off hx (waitA y).toList _ hg Try.underlying92 rfl info_waitR h
theorem load_waitAtR (hgd : o.guard = none) (x : Operand) (ho : o.op = .load 92 x) (g : Nat) (y : WaitX) (hx : a.eval x = .pointer (some ⟨g, 0, none⟩)) (ty : Nat) (fr : Nat × Nat) (hg : w.heap[g]? = some (.cells (waitA y) ty fr))
    (h : wpList Try.prog ops Q rest (a.put o.dst (.agg (waitA y))) w) : wpList Try.prog ops Q (o :: rest) a w :=
  wpList_load_row hgd _ x ho g hx ty (waitA y) fr _ hg Try.underlying92 rfl info_waitR h
theorem store_waitR (hgd : o.guard = none) (x y : Operand) (ho : o.op = .store 92 x y) (hd : o.dst = none) (g : Nat) (u : WaitX) (hx : a.eval x = .pointer (some ⟨g, 0, none⟩)) (hy : a.eval y = .agg (waitA u))
    (ty : Nat) (z : WaitX) (hg : w.heap[g]? = some (.cells (waitA z) ty (0, 0))) (h1 : u.1.2.oneCell' = true) (h : wpList Try.prog ops Q rest a (w.setRow g (waitA u))) : wpList Try.prog ops Q (o :: rest) a w :=
  wpList_store_row hgd _ x y ho g (waitA u) hx hy ty (waitA z) hg info_waitR rfl (Array.all_eq_true_iff_forall_mem.2 fun v hv => wait_ones h1 v (Array.mem_toList_iff.2 hv)) (by rw [hd]; exact h)
end
theorem apart_at {wr : World} {v vQ u : Value} (hu : ∀ b, u.ownBlock = some b → b < wr.heap.size ∧ v.ownBlock ≠ some b) (hat : vQ.ownBlock = v.ownBlock ∨ ∃ k, vQ.ownBlock = some k ∧ wr.heap.size ≤ k) (b : Nat) (e : vQ.ownBlock = some b) (e2 : u.ownBlock = some b) : False := by
  rcases hat with e3 | ⟨k, e3, e4⟩
  · exact (hu b e2).2 (e3.symm.trans e)
  · rw [e3] at e; injection e with e; have := (hu b e2).1; omega
/-- Look under way: those woken, those starved, those who stay. -/
structure LrK (w wr : World) (v1 v2 v3 : Value) (L1 L2 : List SlotX) (L3 : List WaitX) : Prop where
  o1 : OwnT wr w.heap.size v1 L1
  o2 : OwnT wr w.heap.size v2 L2
  o3 : OwnWR wr w.heap.size v3 L3
  d12 : ∀ b, v1.ownBlock = some b → v2.ownBlock ≠ some b
  d13 : ∀ b, v1.ownBlock = some b → v3.ownBlock ≠ some b
  d23 : ∀ b, v2.ownBlock = some b → v3.ownBlock ≠ some b
  bl : Below w.heap.size w wr
section
variable {w wr w' : World} {v1 v2 v3 vQ : Value} {L1 L2 : List SlotX} {L3 : List WaitX} {x : SlotX} {y : WaitX}
theorem LrK.below (h : LrK w wr v1 v2 v3 L1 L2 L3) (hb : Below wr.heap.size wr w') : LrK w w' v1 v2 v3 L1 L2 L3 :=
  ⟨ownsRow_keep h.o1 fun b e => hb.block b (World.ownsRow.lt h.o1 b e).2, ownsRow_keep h.o2 fun b e => hb.block b (World.ownsRow.lt h.o2 b e).2, ownsRow_keep h.o3 fun b e => hb.block b (World.ownsRow.lt h.o3 b e).2, h.d12, h.d13, h.d23, h.bl.trans (hb.mono h.bl.size)⟩
theorem LrK.woke (h : LrK w wr v1 v2 v3 L1 L2 L3) (ho : w'.ownsRow w.heap.size 89 12 vQ (L1.length + 1) (rowE slotA L1 ++ (slotA x).toList))
    (hg : wr.grownBy w' v1.ownBlock) (hat : vQ.ownBlock = v1.ownBlock ∨ ∃ k, vQ.ownBlock = some k ∧ wr.heap.size ≤ k) : LrK w w' vQ v2 v3 (L1 ++ [x]) L2 L3 := by
  have h2 : ∀ b, v2.ownBlock = some b → b < wr.heap.size ∧ v1.ownBlock ≠ some b := fun b e => ⟨(World.ownsRow.lt h.o2 b e).2, fun e2 => h.d12 b e2 e⟩
  have h3 : ∀ b, v3.ownBlock = some b → b < wr.heap.size ∧ v1.ownBlock ≠ some b := fun b e => ⟨(World.ownsRow.lt h.o3 b e).2, fun e2 => h.d13 b e2 e⟩
  exact ⟨OwnT.snoc rfl ho, ownsRow_keep h.o2 fun b e => hg.block b (h2 b e).1 (fun e2 => (h2 b e).2 e2.symm), ownsRow_keep h.o3 fun b e => hg.block b (h3 b e).1 (fun e2 => (h3 b e).2 e2.symm), fun b e e2 => apart_at h2 hat b e e2, fun b e e2 => apart_at h3 hat b e e2, h.d23, h.bl.grown hg h.bl.size (fun b e => (World.ownsRow.lt h.o1 b e).1)⟩
theorem LrK.starve (h : LrK w wr v1 v2 v3 L1 L2 L3) (ho : w'.ownsRow w.heap.size 89 12 vQ (L2.length + 1) (rowE slotA L2 ++ (slotA x).toList))
    (hg : wr.grownBy w' v2.ownBlock) (hat : vQ.ownBlock = v2.ownBlock ∨ ∃ k, vQ.ownBlock = some k ∧ wr.heap.size ≤ k) : LrK w w' v1 vQ v3 L1 (L2 ++ [x]) L3 := by
  have h1 : ∀ b, v1.ownBlock = some b → b < wr.heap.size ∧ v2.ownBlock ≠ some b := fun b e => ⟨(World.ownsRow.lt h.o1 b e).2, h.d12 b e⟩
  have h3 : ∀ b, v3.ownBlock = some b → b < wr.heap.size ∧ v2.ownBlock ≠ some b := fun b e => ⟨(World.ownsRow.lt h.o3 b e).2, fun e2 => h.d23 b e2 e⟩
  exact ⟨ownsRow_keep h.o1 fun b e => hg.block b (h1 b e).1 (fun e2 => (h1 b e).2 e2.symm), OwnT.snoc rfl ho, ownsRow_keep h.o3 fun b e => hg.block b (h3 b e).1 (fun e2 => (h3 b e).2 e2.symm), fun b e e2 => apart_at h1 hat b e2 e, h.d13, fun b e e2 => apart_at h3 hat b e e2, h.bl.grown hg h.bl.size (fun b e => (World.ownsRow.lt h.o2 b e).1)⟩
theorem LrK.stay (h : LrK w wr v1 v2 v3 L1 L2 L3) (ho : w'.ownsRow w.heap.size 92 13 vQ (L3.length + 1) (rowE waitA L3 ++ (waitA y).toList))
    (hg : wr.grownBy w' v3.ownBlock) (hat : vQ.ownBlock = v3.ownBlock ∨ ∃ k, vQ.ownBlock = some k ∧ wr.heap.size ≤ k) : LrK w w' v1 v2 vQ L1 L2 (L3 ++ [y]) := by
  have h1 : ∀ b, v1.ownBlock = some b → b < wr.heap.size ∧ v3.ownBlock ≠ some b := fun b e => ⟨(World.ownsRow.lt h.o1 b e).2, h.d13 b e⟩
  have h2 : ∀ b, v2.ownBlock = some b → b < wr.heap.size ∧ v3.ownBlock ≠ some b := fun b e => ⟨(World.ownsRow.lt h.o2 b e).2, h.d23 b e⟩
  exact ⟨ownsRow_keep h.o1 fun b e => hg.block b (h1 b e).1 (fun e2 => (h1 b e).2 e2.symm), ownsRow_keep h.o2 fun b e => hg.block b (h2 b e).1 (fun e2 => (h2 b e).2 e2.symm), OwnWR.snoc rfl ho, h.d12, fun b e e2 => apart_at h1 hat b e2 e, fun b e e2 => apart_at h2 hat b e2 e, h.bl.grown hg h.bl.size (fun b e => (World.ownsRow.lt h.o3 b e).1)⟩
end
/-- What the reference's Look answers and leaves: n of those who wait are looked at. -/
def RpLk (w : World) (S : Nat → Prop) (b : Nat) (Ls : List (List FutX)) (L : List WaitX) (F n : Nat) (e : Ending) (w' : World) : Prop :=
  ∃ v1 v2 v3 S', e = .returned (.tuple #[v1, v2, .int .i64 ((F - n : Nat) : Int)]) ∧ OwnT w' w.heap.size v1 (wokeL Ls (L.take n)) ∧ OwnT w' w.heap.size v2 ((L.drop n).map Prod.fst) ∧ RpK w' S' b v3 (stayL Ls (L.take n)) ∧ Stp S S' w w' ∧ Frm (One b) w w'
theorem RpK.looked {w wr : World} {S : Nat → Prop} {b : Nat} {v v1 v2 v3 : Value} {Ls : List (List FutX)} {L : List WaitX} {n F : Nat} (h : RpK w S b v L) (h1 : LrK w wr v1 v2 v3 (wokeL Ls (L.take n)) ((L.drop n).map Prod.fst) (stayL Ls (L.take n))) :
    RpLk w S b Ls L F n (.returned (.tuple #[v1, v2, .int .i64 ((F - n : Nat) : Int)])) (wr.setCell ⟨b, 0, none⟩ v3) := by
  have hla := h.lt b h.bS
  have hs1 := h1.bl.size
  have hset : ∀ k, k ≠ b → (wr.setCell ⟨b, 0, none⟩ v3).heap[k]? = wr.heap[k]? := fun k hk => Below.heap_setCell _ _ _ _ hk
  have hsz : (wr.setCell ⟨b, 0, none⟩ v3).heap.size = wr.heap.size := by simp [World.setCell]
  have k1 := World.ownsRow.lt h1.o1
  have k2 := World.ownsRow.lt h1.o2
  have k3 := World.ownsRow.lt h1.o3
  have hF : Frm (fun k => k = b) w (wr.setCell ⟨b, 0, none⟩ v3) := ⟨h1.bl.os, h1.bl.tape, h1.bl.output, by rw [hsz]; exact hs1, fun k hk hn => (hset k hn).trans (h1.bl.block k hk)⟩
  refine ⟨v1, v2, v3, fun k => S k ∨ v3.ownBlock = some k, rfl, ?_, ?_, ⟨?_, ?_, ?_, ?_, .inl h.bS, ?_⟩, ⟨?_, ?_, ?_⟩, hF⟩
  · exact ownsRow_keep h1.o1 fun k e => hset k (by have := k1 k e; omega)
  · exact ownsRow_keep h1.o2 fun k e => hset k (by have := k2 k e; omega)
  · rw [set_blk ((h1.bl.block b hla).trans h.blk)]; rfl
  · have h3' : OwnWR wr 0 v3 (stayL Ls (L.take n)) := ⟨h1.o3.1, by
      rcases h1.o3.2 with h3 | ⟨g, cap, cur, e, hg, h3⟩
      · exact .inl h3
      · exact .inr ⟨g, cap, cur, e, Nat.zero_le _, h3⟩⟩
    exact ownsRow_keep h3' fun k e => hset k (by have := k3 k e; omega)
  · intro k e
    exact ⟨.inr e, by have := k3 k e; omega⟩
  · intro x hx
    exact h.nst x (List.mem_of_mem_take (List.mem_filter.1 hx).1)
  · intro k hk
    rw [hsz]
    rcases hk with e | e
    · have := h.lt k e; omega
    · have := k3 k e; omega
  · exact hF.more fun i _ e => e ▸ h.bS
  · intro i hi e
    rcases e with e | e
    · exact e
    · have := k3 i e; omega
  · intro k hk
    rw [hsz]
    rcases hk with e | e
    · have := h.lt k e; omega
    · have := k3 k e; omega

/-- One more behind the list. -/
theorem RpK.add {w wA wQ : World} {S : Nat → Prop} {b : Nat} {v vQ : Value} {L : List WaitX} {x : WaitX} (h : RpK w S b v L) (hx : x.1.2 = nilV) (hb : Below w.heap.size w wA) (oQ : wQ.ownsRow 0 92 13 vQ (L.length + 1) (rowE waitA L ++ (waitA x).toList))
    (gQ : wA.grownBy wQ v.ownBlock) (bQ : vQ.ownBlock = v.ownBlock ∨ ∃ k, vQ.ownBlock = some k ∧ wA.heap.size ≤ k) :
    ∃ S', RpK (wQ.setCell ⟨b, 0, none⟩ vQ) S' b vQ (L ++ [x]) ∧ Stp S S' w (wQ.setCell ⟨b, 0, none⟩ vQ) := by
  have hv : ∀ k, v.ownBlock = some k → S k ∧ k ≠ b ∧ k < w.heap.size := fun k e => ⟨(h.vS k e).1, (h.vS k e).2, h.lt k (h.vS k e).1⟩
  have hla := h.lt b h.bS
  have hsz := hb.size
  have hgs := gQ.size
  have hq : ∀ k, vQ.ownBlock = some k → (v.ownBlock = some k ∨ wA.heap.size ≤ k) ∧ k < wQ.heap.size := fun k e => by
    refine ⟨?_, (World.ownsRow.lt oQ k e).2⟩
    rcases bQ with e2 | ⟨k2, e2, h4⟩
    · exact .inl (e2.symm.trans e)
    · rw [e2] at e; injection e with e; exact .inr (by omega)
  have hset : ∀ k, k ≠ b → (wQ.setCell ⟨b, 0, none⟩ vQ).heap[k]? = wQ.heap[k]? := fun k hk => Below.heap_setCell _ _ _ _ hk
  have hsz2 : (wQ.setCell ⟨b, 0, none⟩ vQ).heap.size = wQ.heap.size := by simp [World.setCell]
  have hF : Frm (fun k => k = b ∨ v.ownBlock = some k) w (wQ.setCell ⟨b, 0, none⟩ vQ) := by
    refine ⟨gQ.os.trans hb.os, gQ.tape.trans hb.tape, gQ.output.trans hb.output, by rw [hsz2]; omega, fun k hk hne => ?_⟩
    rw [hset k (fun e => hne (.inl e))]
    exact (gQ.block k (by omega) (fun e => hne (.inr e.symm))).trans (hb.block k hk)
  have hqb : ∀ k, vQ.ownBlock = some k → k ≠ b := fun k e e2 => by
    subst e2
    rcases (hq k e).1 with e3 | e3
    · exact (hv k e3).2.1 rfl
    · omega
  refine ⟨fun k => S k ∨ vQ.ownBlock = some k, ⟨?_, ?_, fun k e => ⟨.inr e, hqb k e⟩, ?_, .inl h.bS, ?_⟩, ?_, ?_, ?_⟩
  · have e1 := (gQ.block b (by omega) (fun e => (hv b e.symm).2.1 rfl)).trans ((hb.block b hla).trans h.blk)
    rw [set_blk e1]; rfl
  · unfold OwnWR
    rw [List.length_append, rowE_append, rowE_one]
    exact ownsRow_keep oQ fun k e => hset k (hqb k e)
  · intro y hy
    rw [List.mem_append, List.mem_singleton] at hy
    rcases hy with hy | rfl
    · exact h.nst y hy
    · exact hx
  · intro k hk
    rw [hsz2]
    rcases hk with hk | hk
    · have := h.lt k hk; omega
    · exact (hq k hk).2
  · refine hF.more fun i _ hi => ?_
    rcases hi with rfl | hi
    · exact h.bS
    · exact (hv i hi).1
  · intro i hi hS
    rcases hS with hS | hS
    · exact hS
    · rcases (hq i hS).1 with e | e
      · exact (hv i e).1
      · omega
  · intro k hk
    rw [hsz2]
    rcases hk with hk | hk
    · have := h.lt k hk; omega
    · exact (hq k hk).2

set_option maxRecDepth 100000 in
set_option maxHeartbeats 16000000 in
theorem rpLook_any {w : World} {S T : Nat → Prop} {b f : Nat} {v : Value} {L : List WaitX} {qs : List Int} {Ls : List (List FutX)} (h : RpK w S b v L) (hf : RfFV w T f qs Ls) (hid : ∀ x ∈ L, -2147483648 ≤ x.2 ∧ x.2 ≤ 2147483647) (hL : L.length ≤ 100000) (fuel : Int) (F : Nat) (hF : (F : Int) = max fuel 0) (hF2 : F ≤ 9223372036854775807) :
    Calls Try.prog 46 #[.pointer (some ⟨b, 0, none⟩), .pointer (some ⟨f, 0, none⟩), .int .i64 fuel] w (RpLk w S b Ls L F (min F L.length)) := by
  have H := Lib.hid h
  have HFU := Lib.hid hf
  obtain ⟨A, c, rfl⟩ := h.own.shape
  have c0 : w.cell? ⟨b, 0, none⟩ = some (.slice A L.length c) := cell_blk h.blk 0
  have hla := h.lt b h.bS
  have HID := Lib.hid hid
  obtain ⟨N, hN⟩ : ∃ N, L.length = N := ⟨_, rfl⟩
  have HN := Lib.hid hN
  obtain ⟨n, hn⟩ : ∃ n, min F N = n := ⟨_, rfl⟩
  have e1 : (if fuel < 0 then (0 : Int) else fuel) = (F : Int) := by split <;> omega
  have hnN : n ≤ N := by omega
  have hnF : n ≤ F := by omega
  have HNF : Hid (n < N → n = F) := Lib.hid (by omega)
  rw [hN] at c0 hL ⊢
  rw [hn]
  clear h hf hid hF hN hn
  go_enter Try.func46, Try.ntmps46
  go_wp2_with fail
  clear e1
  have h00 : LrK w w (.slice none 0 0) (.slice none 0 0) (.slice none 0 0) (wokeL Ls (L.take (min 0 n))) (((L.drop n).take (0 - n)).map Prod.fst) (stayL Ls (L.take (min 0 n))) := by
    rw [Nat.zero_min, Nat.zero_sub]
    exact ⟨OwnT.nil _ _, OwnT.nil _ _, World.ownsRow_nil _ _ _ 13, (fun b e => by cases e), (fun b e => by cases e), (fun b e => by cases e), Below.refl _ _⟩
  have H00 := Lib.hid h00
  clear h00
  go_loopw [2, 9, 10, 11, 12] (fun z x s y i wr => ∃ j q : Nat, j ≤ N ∧ i = .int .i64 j ∧ z = .int .i64 q ∧ q = F - min j n ∧ LrK w wr x s y (wokeL Ls (L.take (min j n))) (((L.drop n).take (j - n)).map Prod.fst) (stayL Ls (L.take (min j n)))) (fun _ _ _ _ i _ => N - (intOf i).toNat)
  case atStart => exact ⟨0, F, Nat.zero_le _, rfl, rfl, by omega, H00.out⟩
  case round =>
    obtain ⟨j, q, hj, rfl, rfl, hq, hK⟩ := hrel
    have HK := Lib.hid hK
    obtain ⟨A1, c1, rfl⟩ := hK.o1.shape
    obtain ⟨A2, c2, rfl⟩ := hK.o2.shape
    obtain ⟨A3, c3, rfl⟩ := hK.o3.shape
    have hP := H.out.below hK.bl
    have c9 : wr.cell? ⟨b, 0, none⟩ = some (.slice A N c) := by have := cell_blk hP.blk 0; rw [HN.out] at this; exact this
    have hws : w.heap.size ≤ wr.heap.size := hK.bl.size
    by_cases hjN : j < N
    · have hjl : j < L.length := by rw [HN.out]; exact hjN
      obtain ⟨g, cg, ev, hg, hrg⟩ := hP.range hjl
      have ev1 : A = some ⟨g, 0, none⟩ := by injection ev
      subst ev1
      clear ev
      have HTK := Lib.hid (List.take_succ_eq_append_getElem hjl)
      have HDR : Hid (n ≤ j → ((L.drop n).take (j + 1 - n)).map Prod.fst = ((L.drop n).take (j - n)).map Prod.fst ++ [L[j].1]) := Lib.hid (fun hnj => by
        have e1 : (L.drop n)[j - n]? = some L[j] := by rw [List.getElem?_drop, show n + (j - n) = j from by omega]; exact List.getElem?_eq_getElem hjl
        rw [show j + 1 - n = (j - n) + 1 from by omega, List.take_add_one, e1]; simp)
      have hidx := HID.out L[j] (List.getElem_mem hjl)
      have hnx := H.out.nst L[j] (List.getElem_mem hjl)
      have HGT := Lib.hid (fun w' (hb : Below wr.heap.size wr w') => (by obtain ⟨hB, qA, qc, tb, vs, h2⟩ := (HFU.out.below hK.bl).below hb; exact rGetF_any h2 hB L[j].2 hidx : Calls Try.prog 37 #[.pointer (some ⟨f, 0, none⟩), .int .i32 L[j].2] w' (GotF w' Ls L[j].2)))
      obtain ⟨x, hx⟩ : ∃ x, L[j] = x := ⟨_, rfl⟩
      rw [hx] at hrg HTK HDR hidx hnx HGT
      obtain ⟨⟨t, s⟩, id⟩ := x
      obtain rfl : s = .slice none 0 0 := hnx
      unfold GotF at HGT
      have HRG := Lib.hid hrg
      have i1 : (0 : Int) ≤ (j : Int) ∧ (j : Int) < N := by omega
      have HZ : Hid ((wr.alloc (.cells (waitA zW) 92)).heap[wr.heap.size]? = some (.cells (waitA zW) 92 (0, 0))) := Lib.hid (heap_alloc_new wr _)
      obtain ⟨w1, hw1⟩ : ∃ x, x = (wr.alloc (.cells #[.int .i32 0, .int .i64 0, .int .i64 0, .slice none 0 0, .int .i32 0, .int .i32 0, .int .i32 0, .int .i32 0, .int .i64 0, .int .i64 0, .int .u32 0, .int .i64 0, .int .i32 0] 92)).setRow wr.heap.size (waitA ((t, .slice none 0 0), id)) := ⟨_, rfl⟩
      have hX1 : w1.heap[wr.heap.size]? = some (.cells (waitA ((t, .slice none 0 0), id)) 92 (0, 0)) := by rw [hw1]; exact row_at HZ.out _
      have hB1 : Below wr.heap.size wr w1 := by rw [hw1]; exact (below_alloc wr _).trans (row_below (Nat.le_refl _))
      have hsz1 : wr.heap.size < w1.heap.size := (Array.getElem?_eq_some_iff.1 hX1).1
      have x12 : w1.cell? ⟨wr.heap.size, 12, none⟩ = some (.int .i32 id) := cell_blk hX1 12
      have HX1 := Lib.hid hX1; have HB1 := Lib.hid hB1; have HW1 := Lib.hid hw1
      have HXR := Lib.hid (fun w' (hb : Below w1.heap.size w1 w') => task_of_waitR (x := ((t, .slice none 0 0), id)) ((hb.block _ hsz1).trans hX1))
      have HXT := Lib.hid (fun w' (hb : Below w1.heap.size w1 w') => (hb.block _ hsz1).trans hX1)
      have HKB := Lib.hid (fun w' (hb : Below w1.heap.size w1 w') => hK.below (hB1.trans (hb.mono hB1.size)))
      have HGT1 := Lib.hid (HGT.out w1 hB1)
      have hsr1 : wr.heap.size < w1.heap.size := hsz1
      clear hP hg hrg hx hjl hX1 hB1 hw1 hK HGT hidx
      by_cases hjn : j < n
      · have zq : ((q : Int) == 0) = false := by simp; omega
        have hq1 : 1 ≤ q := by omega
        have hqm : q ≤ 9223372036854775807 := by omega
        have em : min j n = j := by omega
        have e0 : (((L.drop n).take (j - n)).map Prod.fst : List SlotX) = [] := by rw [show j - n = 0 from by omega]; simp
        have e0' : (((L.drop n).take (j + 1 - n)).map Prod.fst : List SlotX) = [] := by rw [show j + 1 - n = 0 from by omega]; simp
        simp only [em, e0, List.length_nil] at HKB HK ⊢
        have HRQ : Hid (q - 1 = F - min (j + 1) n ∧ min (j + 1) n = j + 1) := Lib.hid (by omega)
        have HE0 := Lib.hid e0'
        have HL1 : Hid ((wokeL Ls (L.take j)).length ≤ 100000) := Lib.hid (by unfold wokeL; rw [List.length_map]; exact Nat.le_trans (List.length_filter_le _ _) (by rw [List.length_take]; omega))
        have HL3 : Hid ((stayL Ls (L.take j)).length ≤ 100000) := Lib.hid (by unfold stayL; exact Nat.le_trans (List.length_filter_le _ _) (by rw [List.length_take]; omega))
        obtain ⟨xg, hxg⟩ : ∃ y, itmZ Ls id zF = y := ⟨_, rfl⟩
        obtain ⟨bg, hbg⟩ : ∃ y, isIn Ls id = y := ⟨_, rfl⟩
        have HSE : Hid (setB Ls (((t, .slice none 0 0), id) : WaitX).2 = (bg && (xg.st != 0))) := Lib.hid (by show setB Ls id = _; unfold setB; rw [hxg, hbg])
        rw [hxg, hbg] at HGT1
        unfold futA at HGT1
        clear hxg hbg em e0 e0' hq
        by_cases hst : (bg && (xg.st != 0)) = true
        · have hb1 : bg = true := by cases bg <;> simp_all
          have hb2 : (xg.st != 0) = true := by cases bg <;> simp_all
          subst hb1
          obtain ⟨hwy, hsy⟩ := woke_yes (L := L.take j) (HSE.out.trans hst)
          rw [← HTK.out] at hwy hsy
          have HWY := Lib.hid hwy; have HSY := Lib.hid hsy
          clear hwy hsy hst
          go_wp2_with (first | (refine load_waitMidR rfl _ rfl g (j * 13) ((t, .slice none 0 0), id) rfl HRG.out ?_; simp only [waitA]) | (refine store_waitR rfl _ _ rfl rfl wr.heap.size ((t, .slice none 0 0), id) rfl rfl _ zW HZ.out rfl ?_; rw [← HW1.out]) | fail)
          refine HGT1.out.mono ?_
          rintro e w2 ⟨rfl, hb2⟩
          obtain ⟨w5, hw5⟩ : ∃ x, x = w2.alloc (.cells #[.int .i64 xg.lb, .int .i64 xg.st, .int .i32 xg.v, .int .i64 xg.code] 64) := ⟨_, rfl⟩
          have hb3 : Below w1.heap.size w1 w5 := by rw [hw5]; exact nextB hb2 (below_alloc w2 _)
          have y1 : w5.cell? ⟨w2.heap.size, 1, none⟩ = some (.int .i64 xg.st) := by rw [hw5]; exact cell_blk (heap_alloc_new w2 _) 1
          have HW5 := Lib.hid hw5
          have K3 := Lib.hid (HKB.out _ hb3)
          have HT3 := Lib.hid (HXR.out _ hb3)
          have HX3 := Lib.hid (HXT.out _ hb3)
          have hs3 : w.heap.size ≤ w5.heap.size := by have := hb3.size; omega
          clear hb2 hb3 hw5
          have HO3 : Hid (w5.ownsRow w.heap.size 89 12 (.slice A1 (wokeL Ls (L.take j)).length c1) (wokeL Ls (L.take j)).length (rowE slotA (wokeL Ls (L.take j)))) := Lib.hid K3.out.o1
          have hl1 := HL1.out
          go_upto_region 12 with (fail)
          rw [← HW5.out]
          go_wp2_with (first | (refine load_taskMid rfl _ rfl wr.heap.size 0 t (.slice none 0 0) rfl HT3.out ?_; simp only [taskV, taskA]) | (at_builtin; go_must (refine wpList_append_new 93 89 _ 12 96 Try.underlying93 inf_task rfl (by decide) (by decide) rfl (.tmp 56) (.tmp 59) rfl w.heap.size _ _ _ _ (taskA t (.slice none 0 0)).toList rfl rfl HO3.out rfl rfl ?c1 ?c2 ?c3 ?_)) | fail)
          case c1 => intro u hu; have := task_ones (t := t) (s := .slice none 0 0) rfl; rw [Array.all_eq_true'] at this; exact this u (Array.mem_toList_iff.1 hu)
          case c2 => omega
          case c3 => exact hs3
          intro v3 w3 ho3 hg3 hat3
          have K4 : Hid (LrK w w3 v3 (.slice A2 0 c2) (.slice A3 (stayL Ls (L.take j)).length c3) (wokeL Ls (L.take (min (j + 1) n))) (((L.drop n).take (j + 1 - n)).map Prod.fst) (stayL Ls (L.take (min (j + 1) n)))) := Lib.hid (by rw [HRQ.out.2, HE0.out, HWY.out, HSY.out]; exact K3.out.woke (x := (t, .slice none 0 0)) ho3 hg3 hat3)
          clear ho3 hg3 hat3
          go_wp2_with fail
          go_roundw
          case rel => exact ⟨j + 1, q - 1, by omega, by go_num, by rw [show ((q - 1 : Nat) : Int) = (q : Int) - 1 from by omega], HRQ.out.1, K4.out⟩
          case measure => simp [intOf]; omega
        · have hsf : (bg && (xg.st != 0)) = false := by simpa using hst
          obtain ⟨hwy, hsy⟩ := woke_no (L := L.take j) (HSE.out.trans hsf)
          rw [← HTK.out] at hwy hsy
          have HWY := Lib.hid hwy; have HSY := Lib.hid hsy
          clear hwy hsy hst
          cases bg with
          | true =>
            have hb2 : (xg.st != 0) = false := by simpa using hsf
            clear hsf
            go_wp2_with (first | (refine load_waitMidR rfl _ rfl g (j * 13) ((t, .slice none 0 0), id) rfl HRG.out ?_; simp only [waitA]) | (refine store_waitR rfl _ _ rfl rfl wr.heap.size ((t, .slice none 0 0), id) rfl rfl _ zW HZ.out rfl ?_; rw [← HW1.out]) | fail)
            refine HGT1.out.mono ?_
            rintro e w2 ⟨rfl, hb2⟩
            obtain ⟨w5, hw5⟩ : ∃ x, x = w2.alloc (.cells #[.int .i64 xg.lb, .int .i64 xg.st, .int .i32 xg.v, .int .i64 xg.code] 64) := ⟨_, rfl⟩
            have hb3 : Below w1.heap.size w1 w5 := by rw [hw5]; exact nextB hb2 (below_alloc w2 _)
            have y1 : w5.cell? ⟨w2.heap.size, 1, none⟩ = some (.int .i64 xg.st) := by rw [hw5]; exact cell_blk (heap_alloc_new w2 _) 1
            have HW5 := Lib.hid hw5
            have K3 := Lib.hid (HKB.out _ hb3)
            have HT3 := Lib.hid (HXR.out _ hb3)
            have HX3 := Lib.hid (HXT.out _ hb3)
            have hs3 : w.heap.size ≤ w5.heap.size := by have := hb3.size; omega
            clear hb2 hb3 hw5
            have HO3 : Hid (w5.ownsRow w.heap.size 92 13 (.slice A3 (stayL Ls (L.take j)).length c3) (stayL Ls (L.take j)).length (rowE waitA (stayL Ls (L.take j)))) := Lib.hid K3.out.o3
            have hl3 := HL3.out
            go_upto_region 12 with (fail)
            rw [← HW5.out]
            go_wp2_with (first | (refine load_waitAtR rfl _ rfl wr.heap.size ((t, .slice none 0 0), id) rfl _ _ HX3.out ?_; simp only [waitA]) | (at_builtin; go_must (refine wpList_append_new 81 92 _ 13 104 Try.underlying81 inf_waitR rfl (by decide) (by decide) rfl (.tmp 61) (.tmp 63) rfl w.heap.size _ _ _ _ (waitA ((t, .slice none 0 0), id)).toList rfl rfl HO3.out rfl rfl ?c1 ?c2 ?c3 ?_)) | fail)
            case c1 => exact wait_ones rfl
            case c2 => omega
            case c3 => exact hs3
            intro v3 w3 ho3 hg3 hat3
            have K4 : Hid (LrK w w3 (.slice A1 (wokeL Ls (L.take j)).length c1) (.slice A2 0 c2) v3 (wokeL Ls (L.take (min (j + 1) n))) (((L.drop n).take (j + 1 - n)).map Prod.fst) (stayL Ls (L.take (min (j + 1) n)))) := Lib.hid (by rw [HRQ.out.2, HE0.out, HWY.out, HSY.out]; exact K3.out.stay (y := ((t, .slice none 0 0), id)) ho3 hg3 hat3)
            clear ho3 hg3 hat3
            go_wp2_with fail
            go_roundw
            case rel => exact ⟨j + 1, q - 1, by omega, by go_num, by rw [show ((q - 1 : Nat) : Int) = (q : Int) - 1 from by omega], HRQ.out.1, K4.out⟩
            case measure => simp [intOf]; omega
          | false =>
            clear hsf
            go_wp2_with (first | (refine load_waitMidR rfl _ rfl g (j * 13) ((t, .slice none 0 0), id) rfl HRG.out ?_; simp only [waitA]) | (refine store_waitR rfl _ _ rfl rfl wr.heap.size ((t, .slice none 0 0), id) rfl rfl _ zW HZ.out rfl ?_; rw [← HW1.out]) | fail)
            refine HGT1.out.mono ?_
            rintro e w2 ⟨rfl, hb2⟩
            obtain ⟨w5, hw5⟩ : ∃ x, x = w2.alloc (.cells #[.int .i64 xg.lb, .int .i64 xg.st, .int .i32 xg.v, .int .i64 xg.code] 64) := ⟨_, rfl⟩
            have hb3 : Below w1.heap.size w1 w5 := by rw [hw5]; exact nextB hb2 (below_alloc w2 _)
            have y1 : w5.cell? ⟨w2.heap.size, 1, none⟩ = some (.int .i64 xg.st) := by rw [hw5]; exact cell_blk (heap_alloc_new w2 _) 1
            have HW5 := Lib.hid hw5
            have K3 := Lib.hid (HKB.out _ hb3)
            have HT3 := Lib.hid (HXR.out _ hb3)
            have HX3 := Lib.hid (HXT.out _ hb3)
            have hs3 : w.heap.size ≤ w5.heap.size := by have := hb3.size; omega
            clear hb2 hb3 hw5
            have HO3 : Hid (w5.ownsRow w.heap.size 92 13 (.slice A3 (stayL Ls (L.take j)).length c3) (stayL Ls (L.take j)).length (rowE waitA (stayL Ls (L.take j)))) := Lib.hid K3.out.o3
            have hl3 := HL3.out
            go_upto_region 12 with (fail)
            rw [← HW5.out]
            go_wp2_with (first | (refine load_waitAtR rfl _ rfl wr.heap.size ((t, .slice none 0 0), id) rfl _ _ HX3.out ?_; simp only [waitA]) | (at_builtin; go_must (refine wpList_append_new 81 92 _ 13 104 Try.underlying81 inf_waitR rfl (by decide) (by decide) rfl (.tmp 61) (.tmp 63) rfl w.heap.size _ _ _ _ (waitA ((t, .slice none 0 0), id)).toList rfl rfl HO3.out rfl rfl ?c1 ?c2 ?c3 ?_)) | fail)
            case c1 => exact wait_ones rfl
            case c2 => omega
            case c3 => exact hs3
            intro v3 w3 ho3 hg3 hat3
            have K4 : Hid (LrK w w3 (.slice A1 (wokeL Ls (L.take j)).length c1) (.slice A2 0 c2) v3 (wokeL Ls (L.take (min (j + 1) n))) (((L.drop n).take (j + 1 - n)).map Prod.fst) (stayL Ls (L.take (min (j + 1) n)))) := Lib.hid (by rw [HRQ.out.2, HE0.out, HWY.out, HSY.out]; exact K3.out.stay (y := ((t, .slice none 0 0), id)) ho3 hg3 hat3)
            clear ho3 hg3 hat3
            go_wp2_with fail
            go_roundw
            case rel => exact ⟨j + 1, q - 1, by omega, by go_num, by rw [show ((q - 1 : Nat) : Int) = (q : Int) - 1 from by omega], HRQ.out.1, K4.out⟩
            case measure => simp [intOf]; omega
      · have zq : ((q : Int) == 0) = true := by
          have := HNF.out (by omega)
          have : q = 0 := by omega
          simp [this]
        have em : min j n = n := by omega
        have em' : min (j + 1) n = n := by omega
        have HRQ : Hid (q = F - min (j + 1) n ∧ min (j + 1) n = n) := Lib.hid (by omega)
        have hdr := HDR.out (by omega)
        have HDJ := Lib.hid hdr
        simp only [em] at HKB HK ⊢
        have HL2 : Hid ((((L.drop n).take (j - n)).map Prod.fst).length ≤ 100000) := Lib.hid (by rw [List.length_map, List.length_take]; omega)
        obtain ⟨Y2, hY2⟩ : ∃ X, ((L.drop n).take (j - n)).map Prod.fst = X := ⟨_, rfl⟩
        simp only [hY2] at HKB HK HL2 HDJ ⊢
        clear em em' hq hdr hY2 HDR
        have HB1' := HB1.out
        have K1 := Lib.hid (HKB.out w1 (Below.refl _ _))
        have HT1 := Lib.hid (HXR.out w1 (Below.refl _ _))
        have hs1 : w.heap.size ≤ w1.heap.size := by omega
        have HO1 : Hid (w1.ownsRow w.heap.size 89 12 (.slice A2 Y2.length c2) Y2.length (rowE slotA Y2)) := Lib.hid K1.out.o2
        clear HB1'
        have hl2 := HL2.out
        go_wp2_with (first | (refine load_waitMidR rfl _ rfl g (j * 13) ((t, .slice none 0 0), id) rfl HRG.out ?_; simp only [waitA]) | (refine store_waitR rfl _ _ rfl rfl wr.heap.size ((t, .slice none 0 0), id) rfl rfl _ zW HZ.out rfl ?_; rw [← HW1.out]) | (refine load_taskMid rfl _ rfl wr.heap.size 0 t (.slice none 0 0) rfl HT1.out ?_; simp only [taskV, taskA]) | (at_builtin; go_must (refine wpList_append_new 93 89 _ 12 96 Try.underlying93 inf_task rfl (by decide) (by decide) rfl (.tmp 36) (.tmp 39) rfl w.heap.size _ _ _ _ (taskA t (.slice none 0 0)).toList rfl rfl HO1.out rfl rfl ?c1 ?c2 ?c3 ?_)) | fail)
        case c1 => intro u hu; have := task_ones (t := t) (s := .slice none 0 0) rfl; rw [Array.all_eq_true'] at this; exact this u (by simpa using hu)
        case c2 => omega
        all_goals try exact hs1
        intro v3 w3 ho3 hg3 hat3
        have K4 : Hid (LrK w w3 (.slice A1 (wokeL Ls (L.take n)).length c1) v3 (.slice A3 (stayL Ls (L.take n)).length c3) (wokeL Ls (L.take (min (j + 1) n))) (((L.drop n).take (j + 1 - n)).map Prod.fst) (stayL Ls (L.take (min (j + 1) n)))) := Lib.hid (by rw [HRQ.out.2, HDJ.out]; exact K1.out.starve (x := (t, .slice none 0 0)) ho3 hg3 hat3)
        clear ho3 hg3 hat3
        go_wp2_with fail
        go_roundw
        case rel => exact ⟨j + 1, q, by omega, by go_num, rfl, HRQ.out.1, K4.out⟩
        case measure => simp [intOf]; omega
    · obtain rfl : N = j := by omega
      have em : min N n = n := by omega
      have ed : ((L.drop n).take (N - n)).map Prod.fst = (L.drop n).map Prod.fst := by rw [List.take_of_length_le (by rw [List.length_drop, HN.out]; omega)]
      simp only [em, ed] at HK ⊢
      have hqf : q = F - n := by omega
      have HFIN := Lib.hid (H.out.looked (F := F) HK.out)
      rw [← hqf] at HFIN
      have f9 : wr.frozen? ⟨b, 0, none⟩ = false := frozen_blk hP.blk 0
      clear hK hq hqf em ed hP
      go_wp2_with fail
      go_ret3
      exact HFIN.out

end Go.Proofs.Ytboelofkbhgmfaa
