/- Package park: settled, Look. -/
import Derived.Test.YtboelofkbhgmfaaPk20
import Derived.Deep.QuietTactic
import Derived.BigQuiet
namespace Go.Proofs.Ytboelofkbhgmfaa
set_option maxRecDepth 100000
open Go.RowKit

/-- Has this future a result? -/
def setB (Ls : List (List FutX)) (id : Int) : Bool := isIn Ls id && ((itmZ Ls id zF).st != 0)
set_option maxHeartbeats 4000000 in
theorem settled_any {w : World} {S : Nat → Prop} {f : Nat} {qs : List Int} {Ls : List (List FutX)} (h : FuV w S f qs Ls) (id : Int) (hid : -2147483648 ≤ id ∧ id ≤ 2147483647) :
    Calls Try.prog 72 #[.pointer (some ⟨f, 0, none⟩), .int .i32 id] w fun e w' => e = .returned (.bool (setB Ls id)) ∧ Below w.heap.size w w' := by
  have HG := Lib.hid (fuGet_any h id hid)
  unfold GotF at HG
  obtain ⟨x, hx⟩ : ∃ x, itmZ Ls id zF = x := ⟨_, rfl⟩
  obtain ⟨b, hb⟩ : ∃ b, isIn Ls id = b := ⟨_, rfl⟩
  have HE : Hid (setB Ls id = (b && (x.st != 0))) := Lib.hid (by unfold setB; rw [hx, hb])
  rw [hx, hb] at HG
  unfold futA at HG
  rw [HE.out]
  clear h hx hb
  cases b with
  | true =>
    rw [Bool.true_and]
    go_enter Try.func72, Try.ntmps72
    go_wp2_with fail
    refine HG.out.mono ?_
    rintro e w1 ⟨rfl, hb⟩
    have HB := Lib.hid hb
    clear hb
    go_wp2_with fail
    go_ret
    exact ⟨rfl, HB.out.alloc HB.out.size _⟩
  | false =>
    rw [Bool.false_and]
    go_enter Try.func72, Try.ntmps72
    go_wp2_with fail
    refine HG.out.mono ?_
    rintro e w1 ⟨rfl, hb⟩
    have HB := Lib.hid hb
    clear hb
    go_wp2_with fail
    go_ret
    exact ⟨rfl, HB.out.alloc HB.out.size _⟩

/-- A list of those who wait, of the call's own. -/
def OwnW (w : World) (base : Nat) (v : Value) (L : List WaitX) : Prop := w.ownsRow base 101 13 v L.length (rowE waitA L)
theorem OwnW.snoc {w : World} {base n : Nat} {v : Value} {L : List WaitX} {x : WaitX} (hn : n = L.length) (h : w.ownsRow base 101 13 v (n + 1) (rowE waitA L ++ (waitA x).toList)) : OwnW w base v (L ++ [x]) := by
  subst hn
  unfold OwnW
  rw [List.length_append, rowE_append, rowE_one]
  exact h
theorem OwnW.shape {w : World} {base : Nat} {v : Value} {L : List WaitX} (h : OwnW w base v L) : ∃ A c, v = .slice A L.length c := by
  rcases h.2 with ⟨h1, h2⟩ | ⟨g, cap, _, hv, _⟩
  · exact ⟨none, 0, by rw [h1, h2]⟩
  · exact ⟨_, cap, hv⟩
def wokeL (Ls : List (List FutX)) (L : List WaitX) : List SlotX := (L.filter fun x => setB Ls x.2).map Prod.fst
def stayL (Ls : List (List FutX)) (L : List WaitX) : List WaitX := L.filter fun x => !setB Ls x.2
theorem woke_yes {Ls : List (List FutX)} {L : List WaitX} {x : WaitX} (h : setB Ls x.2 = true) : wokeL Ls (L ++ [x]) = wokeL Ls L ++ [x.1] ∧ stayL Ls (L ++ [x]) = stayL Ls L := by
  unfold wokeL stayL; simp [List.filter_append, List.filter_cons, h]
theorem woke_no {Ls : List (List FutX)} {L : List WaitX} {x : WaitX} (h : setB Ls x.2 = false) : wokeL Ls (L ++ [x]) = wokeL Ls L ∧ stayL Ls (L ++ [x]) = stayL Ls L ++ [x] := by
  unfold wokeL stayL; simp [List.filter_append, List.filter_cons, h]
/-- Look under way: those woken, those who stay. -/
structure LkK (w wr : World) (v6 v10 : Value) (L1 : List SlotX) (L3 : List WaitX) : Prop where
  o1 : OwnT wr w.heap.size v6 L1
  o3 : OwnW wr w.heap.size v10 L3
  dif : ∀ b, v6.ownBlock = some b → v10.ownBlock ≠ some b
  bl : Below w.heap.size w wr
theorem LkK.below {w wr w' : World} {v6 v10 : Value} {L1 : List SlotX} {L3 : List WaitX} (h : LkK w wr v6 v10 L1 L3) (hb : Below wr.heap.size wr w') : LkK w w' v6 v10 L1 L3 :=
  ⟨ownsRow_keep h.o1 fun b e => hb.block b (World.ownsRow.lt h.o1 b e).2, ownsRow_keep h.o3 fun b e => hb.block b (World.ownsRow.lt h.o3 b e).2, h.dif, h.bl.trans (hb.mono h.bl.size)⟩
theorem LkK.woke {w wr w' : World} {v6 v10 vQ : Value} {L1 : List SlotX} {L3 : List WaitX} {x : SlotX} (h : LkK w wr v6 v10 L1 L3) (ho : w'.ownsRow w.heap.size 89 12 vQ (L1.length + 1) (rowE slotA L1 ++ (slotA x).toList))
    (hg : wr.grownBy w' v6.ownBlock) (hat : vQ.ownBlock = v6.ownBlock ∨ ∃ k, vQ.ownBlock = some k ∧ wr.heap.size ≤ k) : LkK w w' vQ v10 (L1 ++ [x]) L3 := by
  have h3 : ∀ b, v10.ownBlock = some b → b < wr.heap.size ∧ v6.ownBlock ≠ some b := fun b e => ⟨(World.ownsRow.lt h.o3 b e).2, fun e2 => h.dif b e2 e⟩
  refine ⟨OwnT.snoc rfl ho, ownsRow_keep h.o3 fun b e => hg.block b (h3 b e).1 (fun e2 => (h3 b e).2 e2.symm), fun b e e2 => ?_, h.bl.grown hg h.bl.size (fun b e => (World.ownsRow.lt h.o1 b e).1)⟩
  rcases hat with e3 | ⟨k, e3, e4⟩
  · exact h.dif b (e3.symm.trans e) e2
  · rw [e3] at e; injection e with e; have := (h3 b e2).1; omega
theorem LkK.stay {w wr w' : World} {v6 v10 vQ : Value} {L1 : List SlotX} {L3 : List WaitX} {x : WaitX} (h : LkK w wr v6 v10 L1 L3) (ho : w'.ownsRow w.heap.size 101 13 vQ (L3.length + 1) (rowE waitA L3 ++ (waitA x).toList))
    (hg : wr.grownBy w' v10.ownBlock) (hat : vQ.ownBlock = v10.ownBlock ∨ ∃ k, vQ.ownBlock = some k ∧ wr.heap.size ≤ k) : LkK w w' v6 vQ L1 (L3 ++ [x]) := by
  have h1 : ∀ b, v6.ownBlock = some b → b < wr.heap.size ∧ v10.ownBlock ≠ some b := fun b e => ⟨(World.ownsRow.lt h.o1 b e).2, h.dif b e⟩
  refine ⟨ownsRow_keep h.o1 fun b e => hg.block b (h1 b e).1 (fun e2 => (h1 b e).2 e2.symm), OwnW.snoc rfl ho, fun b e e2 => ?_, h.bl.grown hg h.bl.size (fun b e => (World.ownsRow.lt h.o3 b e).1)⟩
  rcases hat with e3 | ⟨k, e3, e4⟩
  · exact h.dif b e (e3.symm.trans e2)
  · rw [e3] at e2; injection e2 with e2; have := (h1 b e).1; omega
theorem task_of_wait {w : World} {g : Nat} {x : WaitX} (h : w.heap[g]? = some (.cells (waitA x) 101 (0, 0))) : w.rangeAt g 0 (taskA x.1.1 x.1.2).toList := fun j u hu => by
  rw [Nat.zero_add, cell_blk h]
  have hj := (List.getElem?_eq_some_iff.1 hu).1
  have hj12 : j < 12 := hj
  rw [← hu]
  rcases (by omega : j = 0 ∨ j = 1 ∨ j = 2 ∨ j = 3 ∨ j = 4 ∨ j = 5 ∨ j = 6 ∨ j = 7 ∨ j = 8 ∨ j = 9 ∨ j = 10 ∨ j = 11) with rfl | rfl | rfl | rfl | rfl | rfl | rfl | rfl | rfl | rfl | rfl | rfl <;> rfl
section
variable {ops : Array Oper} {rest : List Oper} {o : Oper} {a : Act} {w : World} {Q : Exit → Act → World → Prop}
theorem load_waitMid (hgd : o.guard = none) (x : Operand) (ho : o.op = .load 101 x) (g off : Nat) (y : WaitX) (hx : a.eval x = .pointer (some ⟨g, off, none⟩)) (hg : w.rangeAt g off (waitA y).toList)
    (h : wpList Try.prog ops Q rest (a.put o.dst (.agg (waitA y))) w) : wpList Try.prog ops Q (o :: rest) a w :=
  wpList_load_mid hgd _ x ho g off hx (waitA y).toList _ hg Try.underlying101 rfl info_wait h
theorem load_waitAt (hgd : o.guard = none) (x : Operand) (ho : o.op = .load 101 x) (g : Nat) (y : WaitX) (hx : a.eval x = .pointer (some ⟨g, 0, none⟩)) (ty : Nat) (fr : Nat × Nat) (hg : w.heap[g]? = some (.cells (waitA y) ty fr))
    (h : wpList Try.prog ops Q rest (a.put o.dst (.agg (waitA y))) w) : wpList Try.prog ops Q (o :: rest) a w :=
  wpList_load_row hgd _ x ho g hx ty (waitA y) fr _ hg Try.underlying101 rfl info_wait h
theorem store_wait (hgd : o.guard = none) (x y : Operand) (ho : o.op = .store 101 x y) (hd : o.dst = none) (g : Nat) (u : WaitX) (hx : a.eval x = .pointer (some ⟨g, 0, none⟩)) (hy : a.eval y = .agg (waitA u))
    (ty : Nat) (z : WaitX) (hg : w.heap[g]? = some (.cells (waitA z) ty (0, 0))) (h1 : u.1.2.oneCell' = true) (h : wpList Try.prog ops Q rest a (w.setRow g (waitA u))) : wpList Try.prog ops Q (o :: rest) a w :=
  wpList_store_row hgd _ x y ho g (waitA u) hx hy ty (waitA z) hg info_wait rfl (Array.all_eq_true_iff_forall_mem.2 fun v hv => wait_ones h1 v (Array.mem_toList_iff.2 hv)) (by rw [hd]; exact h)
end
def zW : WaitX := ((zT, nilV), 0)
/-- What Look answers and leaves: n of those who wait are looked at. -/
def PkLk (w : World) (S : Nat → Prop) (a : Nat) (Ls : List (List FutX)) (L : List WaitX) (F n : Nat) (e : Ending) (w' : World) : Prop :=
  ∃ v1 v2 v3 S', e = .returned (.tuple #[v1, v2, .int .i64 ((F - n : Nat) : Int)]) ∧ OwnT w' w.heap.size v1 (wokeL Ls (L.take n)) ∧ OwnT w' w.heap.size v2 ((L.drop n).map Prod.fst) ∧ PkK w' S' a v3 (stayL Ls (L.take n)) ∧ Stp S S' w w'
theorem PkK.looked {w wr w9 : World} {S : Nat → Prop} {a : Nat} {v v6 v7 v10 : Value} {Ls : List (List FutX)} {L : List WaitX} {n : Nat} (h : PkK w S a v L) (h1 : LkK w wr v6 v10 (wokeL Ls (L.take n)) (stayL Ls (L.take n)))
    (h2 : OwnT w9 wr.heap.size v7 ((L.drop n).map Prod.fst)) (hb : Below wr.heap.size wr w9) :
    ∃ S', OwnT (w9.setCell ⟨a, 0, none⟩ v10) w.heap.size v6 (wokeL Ls (L.take n)) ∧ OwnT (w9.setCell ⟨a, 0, none⟩ v10) w.heap.size v7 ((L.drop n).map Prod.fst) ∧ PkK (w9.setCell ⟨a, 0, none⟩ v10) S' a v10 (stayL Ls (L.take n)) ∧ Stp S S' w (w9.setCell ⟨a, 0, none⟩ v10) := by
  have hla := h.lt a h.aS
  have hs1 := h1.bl.size
  have hs2 := hb.size
  have hset : ∀ b, b ≠ a → (w9.setCell ⟨a, 0, none⟩ v10).heap[b]? = w9.heap[b]? := fun b hb => Below.heap_setCell _ _ _ _ hb
  have hsz : (w9.setCell ⟨a, 0, none⟩ v10).heap.size = w9.heap.size := by simp [World.setCell]
  have hB : Below w.heap.size w w9 := h1.bl.trans (hb.mono hs1)
  have k1 := World.ownsRow.lt h1.o1
  have k3 := World.ownsRow.lt h1.o3
  have k2 := World.ownsRow.lt h2
  have hF : Frm (fun b => b = a) w (w9.setCell ⟨a, 0, none⟩ v10) := ⟨hB.os, hB.tape, hB.output, by rw [hsz]; exact hB.size, fun k hk hn => (hset k hn).trans (hB.block k hk)⟩
  refine ⟨fun b => S b ∨ v10.ownBlock = some b, ?_, ?_, ⟨?_, ?_, ?_, ?_, .inl h.aS, ?_⟩, ?_, ?_, ?_⟩
  · exact ownsRow_keep h1.o1 fun b e => (hset b (by have := k1 b e; omega)).trans (hb.block b (k1 b e).2)
  · have h2' : w9.ownsRow w.heap.size 89 12 v7 ((L.drop n).map Prod.fst).length (rowE slotA ((L.drop n).map Prod.fst)) := ⟨h2.1, by
      rcases h2.2 with h3 | ⟨g, cap, cur, e, hg, h3⟩
      · exact .inl h3
      · exact .inr ⟨g, cap, cur, e, Nat.le_trans hs1 hg, h3⟩⟩
    exact ownsRow_keep h2' fun b e => hset b (by have := k2 b e; omega)
  · rw [set_blk ((hB.block a hla).trans h.blk)]; rfl
  · have h3' : wr.ownsRow 0 101 13 v10 (stayL Ls (L.take n)).length (rowE waitA (stayL Ls (L.take n))) := ⟨h1.o3.1, by
      rcases h1.o3.2 with h3 | ⟨g, cap, cur, e, hg, h3⟩
      · exact .inl h3
      · exact .inr ⟨g, cap, cur, e, Nat.zero_le _, h3⟩⟩
    exact ownsRow_keep h3' fun b e => (hset b (by have := k3 b e; omega)).trans (hb.block b (k3 b e).2)
  · intro b e
    exact ⟨.inr e, by have := k3 b e; omega⟩
  · intro x hx
    have hx' : x ∈ L := List.mem_of_mem_take (List.mem_filter.1 hx).1
    refine ⟨(h.st x hx').1.keep hF (fun i hi e => hi.2.1 e) (fun i hlt hi => ⟨.inl hi.1, hi.2.1, fun e => by have := k3 i e; omega⟩) (fun i hi => h.lt i hi.1), (h.st x hx').2⟩
  · intro b hb'
    rw [hsz]
    rcases hb' with e | e
    · have := h.lt b e; omega
    · have := k3 b e; omega
  · exact hF.more fun i _ e => e ▸ h.aS
  · intro i hi e
    rcases e with e | e
    · exact e
    · have := k3 i e; omega
  · intro b hb'
    rw [hsz]
    rcases hb' with e | e
    · have := h.lt b e; omega
    · have := k3 b e; omega

set_option maxRecDepth 100000 in
set_option maxHeartbeats 16000000 in
theorem pkLook_any {w : World} {S T : Nat → Prop} {a f : Nat} {v : Value} {L : List WaitX} {qs : List Int} {Ls : List (List FutX)} (h : PkK w S a v L) (hf : FuV w T f qs Ls) (hid : ∀ x ∈ L, -2147483648 ≤ x.2 ∧ x.2 ≤ 2147483647) (hL : L.length ≤ 100000) (fuel : Int) (F : Nat) (hF : (F : Int) = max fuel 0) (hF2 : F ≤ 9223372036854775807) :
    Calls Try.prog 45 #[.pointer (some ⟨a, 0, none⟩), .pointer (some ⟨f, 0, none⟩), .int .i64 fuel] w (PkLk w S a Ls L F (min F L.length)) := by
  have H := Lib.hid h
  have HFU := Lib.hid hf
  obtain ⟨A, c, rfl, hnc⟩ := h.shape
  have c0 : w.cell? ⟨a, 0, none⟩ = some (.slice A L.length c) := cell_blk h.blk 0
  have HLEN := Lib.hid (pkLen_any h)
  have hla := h.lt a h.aS
  have HID := Lib.hid hid
  obtain ⟨N, hN⟩ : ∃ N, L.length = N := ⟨_, rfl⟩
  have HN := Lib.hid hN
  obtain ⟨n, hn⟩ : ∃ n, min F N = n := ⟨_, rfl⟩
  have e1 : (if fuel < 0 then (0 : Int) else fuel) = (F : Int) := by split <;> omega
  have e2 : (if (N : Int) < (F : Int) then (N : Int) else (F : Int)) = (n : Int) := by split <;> omega
  have e3 : (if N < F then (N : Int) else (F : Int)) = (n : Int) := by split <;> omega
  have hnN : n ≤ N := by omega
  have hnF : n ≤ F := by omega
  have hncc : n ≤ c := by omega
  rw [hN] at c0 HLEN hnc hL ⊢
  rw [hn]
  clear h hf hid hF hN hn
  go_enter Try.func45, Try.ntmps45
  go_wp2_with fail
  refine HLEN.out.mono ?_
  rintro e w' ⟨rfl, rfl⟩
  have HE := Lib.hid e3
  go_wp2_with fail
  clear e1 e2 e3 c0
  go_loopw [6, 10, 28] (fun x y i wr => ∃ j : Nat, j ≤ n ∧ i = .int .i64 j ∧ LkK w wr x y (wokeL Ls (L.take j)) (stayL Ls (L.take j))) (fun _ _ i _ => n - (intOf i).toNat)
  case atStart => exact ⟨0, Nat.zero_le _, rfl, ⟨OwnT.nil _ _, World.ownsRow_nil _ _ _ 13, (fun b e => by cases e), Below.refl _ _⟩⟩
  case round =>
    obtain ⟨j, hj, rfl, hK⟩ := hrel
    have HK := Lib.hid hK
    obtain ⟨A6, c6, rfl⟩ := hK.o1.shape
    obtain ⟨A10, c10, rfl⟩ := hK.o3.shape
    by_cases hjn : j < n
    · have hjl : j < L.length := by rw [HN.out]; omega
      have hP := H.out.below hK.bl
      obtain ⟨g, cg, ev, hg, hrg⟩ := hP.range hjl
      have ev1 : A = some ⟨g, 0, none⟩ := by injection ev
      have ev3 : cg = c := by injection ev with _ _ e; exact e.symm
      subst ev1
      subst ev3
      clear ev
      have HTK := Lib.hid (List.take_succ_eq_append_getElem hjl)
      have hidx := HID.out L[j] (List.getElem_mem hjl)
      have hst := (hP.st L[j] (List.getElem_mem hjl)).1
      have HSE := Lib.hid (fun w' (hb : Below wr.heap.size wr w') => settled_any ((HFU.out.below hK.bl).below hb) L[j].2 hidx)
      obtain ⟨x, hx⟩ : ∃ x, L[j] = x := ⟨_, rfl⟩
      rw [hx] at hrg HTK hidx hst HSE
      obtain ⟨Ax, cx, ex, _⟩ := hst
      obtain ⟨⟨t, s⟩, id⟩ := x
      have ex' : s = .slice Ax t.st.length cx := ex
      subst ex'
      have HRG := Lib.hid hrg
      have HL1 : Hid ((wokeL Ls (L.take j)).length ≤ 100000) := Lib.hid (by unfold wokeL; rw [List.length_map]; exact Nat.le_trans (List.length_filter_le _ _) (by rw [List.length_take]; omega))
      have HL3 : Hid ((stayL Ls (L.take j)).length ≤ 100000) := Lib.hid (by unfold stayL; exact Nat.le_trans (List.length_filter_le _ _) (by rw [List.length_take]; omega))
      have hw0 : w.heap.size ≤ wr.heap.size := hK.bl.size
      have i1 : (0 : Int) ≤ (j : Int) ∧ (j : Int) < n := by omega
      have HZ : Hid ((wr.alloc (.cells (waitA zW) 101)).heap[wr.heap.size]? = some (.cells (waitA zW) 101 (0, 0))) := Lib.hid (heap_alloc_new wr _)
      obtain ⟨w1, hw1⟩ : ∃ x, x = (wr.alloc (.cells #[.int .i32 0, .int .i64 0, .int .i64 0, .slice none 0 0, .int .i32 0, .int .i32 0, .int .i32 0, .int .i32 0, .int .i64 0, .int .i64 0, .int .u32 0, .int .i64 0, .int .i32 0] 101)).setRow wr.heap.size (waitA ((t, .slice Ax t.st.length cx), id)) := ⟨_, rfl⟩
      have hX1 : w1.heap[wr.heap.size]? = some (.cells (waitA ((t, .slice Ax t.st.length cx), id)) 101 (0, 0)) := by rw [hw1]; exact row_at HZ.out _
      have hB1 : Below wr.heap.size wr w1 := by rw [hw1]; exact (below_alloc wr _).trans (row_below (Nat.le_refl _))
      have hsz1 : wr.heap.size < w1.heap.size := (Array.getElem?_eq_some_iff.1 hX1).1
      have x12 : w1.cell? ⟨wr.heap.size, 12, none⟩ = some (.int .i32 id) := cell_blk hX1 12
      have HX1 := Lib.hid hX1; have HB1 := Lib.hid hB1; have HW1 := Lib.hid hw1
      have HSE1 := Lib.hid (HSE.out w1 hB1)
      have HXT := Lib.hid (fun w' (hb : Below w1.heap.size w1 w') => (hb.block _ hsz1).trans hX1)
      have HXR := Lib.hid (fun w' (hb : Below w1.heap.size w1 w') => task_of_wait (x := ((t, .slice Ax t.st.length cx), id)) ((hb.block _ hsz1).trans hX1))
      have HKB := Lib.hid (fun w' (hb : Below w1.heap.size w1 w') => hK.below (hB1.trans (hb.mono hB1.size)))
      generalize t.st.length = m at *
      clear hP hg hrg hx hjl HSE hX1 hB1 hw1 hK
      go_wp2_with (first | (refine load_waitMid rfl _ rfl g (j * 13) ((t, .slice Ax m cx), id) rfl HRG.out ?_; simp only [waitA]) | (refine store_wait rfl _ _ rfl rfl wr.heap.size ((t, .slice Ax m cx), id) rfl rfl _ zW HZ.out rfl ?_; rw [← HW1.out]) | fail)
      refine HSE1.out.mono ?_
      rintro e w2 ⟨rfl, hb2⟩
      have HB2 := Lib.hid hb2
      have K2 := Lib.hid (HKB.out w2 hb2)
      have HT2 := Lib.hid (HXR.out w2 hb2)
      have HW2 := Lib.hid (HXT.out w2 hb2)
      have hs2 : wr.heap.size < w2.heap.size := Nat.lt_of_lt_of_le hsz1 hb2.size
      clear hb2
      obtain ⟨b, hb⟩ : ∃ b, setB Ls id = b := ⟨_, rfl⟩
      have HSB : Hid (setB Ls (((t, .slice Ax m cx), id) : WaitX).2 = b) := Lib.hid hb
      rw [hb]
      clear hb
      cases b with
      | true =>
        obtain ⟨hwy, hsy⟩ := woke_yes (L := L.take j) HSB.out
        rw [← HTK.out] at hwy hsy
        have HWY := Lib.hid hwy; have HSY := Lib.hid hsy
        have HO2 : Hid (w2.ownsRow w.heap.size 89 12 (.slice A6 (wokeL Ls (L.take j)).length c6) (wokeL Ls (L.take j)).length (rowE slotA (wokeL Ls (L.take j)))) := Lib.hid K2.out.o1
        have hws : w.heap.size ≤ w2.heap.size := by omega
        have hl1 := HL1.out
        clear hwy hsy
        go_wp2_with (first | (refine load_taskMid rfl _ rfl wr.heap.size 0 t (.slice Ax m cx) rfl HT2.out ?_; simp only [taskV, taskA]) | (at_builtin; go_must (refine wpList_append_new 93 89 _ 12 96 Try.underlying93 inf_task rfl (by decide) (by decide) rfl (.tmp 36) (.tmp 39) rfl w.heap.size _ _ _ _ (taskA t (.slice Ax m cx)).toList rfl rfl HO2.out rfl rfl ?c1 ?c2 ?c3 ?_)) | fail)
        case c1 => intro u hu; have := task_ones (t := t) (s := .slice Ax m cx) rfl; rw [Array.all_eq_true'] at this; exact this u (Array.mem_toList_iff.1 hu)
        case c2 => omega
        case c3 => omega
        intro v3 w3 ho3 hg3 hat3
        have K3 : Hid (LkK w w3 v3 (.slice A10 (stayL Ls (L.take j)).length c10) (wokeL Ls (L.take (j + 1))) (stayL Ls (L.take (j + 1)))) := Lib.hid (by rw [HWY.out, HSY.out]; exact K2.out.woke (x := (t, .slice Ax m cx)) ho3 hg3 hat3)
        clear ho3 hg3 hat3
        go_wp2_with fail
        go_roundw
        case rel => exact ⟨j + 1, by omega, by go_num, K3.out⟩
        case measure => simp [intOf]; omega
      | false =>
        obtain ⟨hwy, hsy⟩ := woke_no (L := L.take j) HSB.out
        rw [← HTK.out] at hwy hsy
        have HWY := Lib.hid hwy; have HSY := Lib.hid hsy
        have HO2 : Hid (w2.ownsRow w.heap.size 101 13 (.slice A10 (stayL Ls (L.take j)).length c10) (stayL Ls (L.take j)).length (rowE waitA (stayL Ls (L.take j)))) := Lib.hid K2.out.o3
        have hws : w.heap.size ≤ w2.heap.size := by omega
        have hl3 := HL3.out
        clear hwy hsy
        go_wp2_with (first | (refine load_waitAt rfl _ rfl wr.heap.size ((t, .slice Ax m cx), id) rfl _ _ HW2.out ?_; simp only [waitA]) | (at_builtin; go_must (refine wpList_append_new 98 101 _ 13 104 Try.underlying98 inf_wait rfl (by decide) (by decide) rfl (.tmp 41) (.tmp 43) rfl w.heap.size _ _ _ _ (waitA ((t, .slice Ax m cx), id)).toList rfl rfl HO2.out rfl rfl ?c1 ?c2 ?c3 ?_)) | fail)
        case c1 => exact wait_ones rfl
        case c2 => omega
        case c3 => omega
        intro v3 w3 ho3 hg3 hat3
        have K3 : Hid (LkK w w3 (.slice A6 (wokeL Ls (L.take j)).length c6) v3 (wokeL Ls (L.take (j + 1))) (stayL Ls (L.take (j + 1)))) := Lib.hid (by rw [HWY.out, HSY.out]; exact K2.out.stay (x := ((t, .slice Ax m cx), id)) ho3 hg3 hat3)
        clear ho3 hg3 hat3
        go_wp2_with fail
        go_roundw
        case rel => exact ⟨j + 1, by omega, by go_num, K3.out⟩
        case measure => simp [intOf]; omega
    · obtain rfl : n = j := by omega
      have hP := H.out.below hK.bl
      have c0 : wr.cell? ⟨a, 0, none⟩ = some (.slice A N c) := by have := cell_blk hP.blk 0; rw [HN.out] at this; exact this
      have HK2 := Lib.hid hK
      have hsr := hK.bl.size
      have hbx : a < wr.heap.size := by omega
      have HP := Lib.hid hP
      clear hK hP HK
      obtain ⟨M, hM⟩ : ∃ M, N - n = M := ⟨_, rfl⟩
      have hNM : N = n + M := by omega
      obtain ⟨wo, rfl⟩ : ∃ wo : World, wo = wr := ⟨_, rfl⟩
      by_cases hcn : c = n
      · have hM0 : M = 0 := by omega
        have hnm1 : N ≤ n + M := by omega
        have hnm2 : n + M ≤ N := by omega
        clear hNM
        go_wp2_with fail
        clear hM
        go_loopw [7, 53] (fun y i w2 => ∃ j : Nat, j ≤ M ∧ i = .int .i64 j ∧ OwnT w2 wo.heap.size y (((L.drop n).take j).map Prod.fst) ∧ Below wo.heap.size wo w2) (fun _ i _ => M - (intOf i).toNat)
        case atStart => exact ⟨0, Nat.zero_le _, rfl, OwnT.nil _ _, Below.refl _ _⟩
        case round =>
          obtain ⟨j, hj2, rfl, ho7, hb7⟩ := hrel
          have HO7 := Lib.hid ho7; have HB7 := Lib.hid hb7
          have hlen7 : (((L.drop n).take j).map Prod.fst).length = j := by rw [List.length_map, List.length_take, List.length_drop, HN.out]; omega
          obtain ⟨A7, c7, e7⟩ := ho7.shape
          rw [hlen7] at e7
          subst e7
          have HLEN7 := Lib.hid hlen7
          by_cases hjM : j < M
          · omega
          · obtain rfl : M = j := by omega
            have HDR : Hid (((L.drop n).take M).map Prod.fst = (L.drop n).map Prod.fst) := Lib.hid (by rw [List.take_of_length_le (by rw [List.length_drop, HN.out]; omega)])
            rw [HDR.out] at HO7
            obtain ⟨S', f1, f2, f3, f4⟩ := H.out.looked HK2.out HO7.out HB7.out
            have HFIN : Hid (PkLk w S a Ls L F n (.returned (.tuple #[.slice A6 (wokeL Ls (L.take n)).length c6, .slice A7 M c7, .int .i64 ((F - n : Nat) : Int)])) (wr.setCell ⟨a, 0, none⟩ (.slice A10 (stayL Ls (L.take n)).length c10))) := Lib.hid ⟨_, _, _, S', rfl, f1, f2, f3, f4⟩
            have c9 : wr.cell? ⟨a, 0, none⟩ = some (.slice A N c) := (hb7.cell (p := ⟨a, 0, none⟩) hbx).trans c0
            have f9 : wr.frozen? ⟨a, 0, none⟩ = false := (hb7.frozen (p := ⟨a, 0, none⟩) hbx).trans (frozen_blk HP.out.blk 0)
            have esub : IntKind.i64.wrap ((F : Int) - (n : Int)) = ((F - n : Nat) : Int) := by rw [IntWalk.i64_in _ (by omega)]; omega
            clear f1 f2 f3 f4 ho7 hb7
            go_wp2_with fail
            go_ret3
            exact HFIN.out
      · obtain ⟨g, hA⟩ : ∃ g, A = some ⟨g, 0, none⟩ := by
          rcases HP.out.own.2 with ⟨e1, _⟩ | ⟨g, cap, _, e1, _⟩
          · injection e1 with _ _ e1; omega
          · injection e1 with e1 _ _; exact ⟨g, e1⟩
        subst hA
        have hnm1 : N ≤ n + M := by omega
        have hnm2 : n + M ≤ N := by omega
        clear hNM
        go_wp2_with fail
        clear hM
        go_loopw [7, 53] (fun y i w2 => ∃ j : Nat, j ≤ M ∧ i = .int .i64 j ∧ OwnT w2 wo.heap.size y (((L.drop n).take j).map Prod.fst) ∧ Below wo.heap.size wo w2) (fun _ i _ => M - (intOf i).toNat)
        case atStart => exact ⟨0, Nat.zero_le _, rfl, OwnT.nil _ _, Below.refl _ _⟩
        case round =>
          obtain ⟨j, hj2, rfl, ho7, hb7⟩ := hrel
          have HO7 := Lib.hid ho7; have HB7 := Lib.hid hb7
          have hlen7 : (((L.drop n).take j).map Prod.fst).length = j := by rw [List.length_map, List.length_take, List.length_drop, HN.out]; omega
          obtain ⟨A7, c7, e7⟩ := ho7.shape
          rw [hlen7] at e7
          subst e7
          have HLEN7 := Lib.hid hlen7
          by_cases hjM : j < M
          · have hjl : n + j < L.length := by rw [HN.out]; omega
            have hP2 := HP.out.below hb7
            obtain ⟨g', cg, ev, hg, hrg⟩ := hP2.range hjl
            have ev1 : g = g' := by injection ev with e _ _; injection e with e; injection e
            subst ev1
            clear ev
            rw [show (n + j) * 13 = n * 13 + j * 13 from by omega] at hrg
            have HTK : Hid (((L.drop n).take (j + 1)).map Prod.fst = ((L.drop n).take j).map Prod.fst ++ [L[n + j].1]) := Lib.hid (by
              have e1 : (L.drop n)[j]? = some L[n + j] := by rw [List.getElem?_drop]; exact List.getElem?_eq_getElem hjl
              rw [List.take_add_one, e1]; simp)
            have hst := (hP2.st L[n + j] (List.getElem_mem hjl)).1
            obtain ⟨x, hx⟩ : ∃ x, L[n + j] = x := ⟨_, rfl⟩
            rw [hx] at hrg HTK hst
            obtain ⟨Ax, cx, ex, _⟩ := hst
            obtain ⟨⟨t, s⟩, id⟩ := x
            have ex' : s = .slice Ax t.st.length cx := ex
            subst ex'
            have HRG := Lib.hid hrg
            have i1 : (0 : Int) ≤ (j : Int) ∧ (j : Int) < M := by omega
            have HZ : Hid ((wr.alloc (.cells (waitA zW) 101)).heap[wr.heap.size]? = some (.cells (waitA zW) 101 (0, 0))) := Lib.hid (heap_alloc_new wr _)
            obtain ⟨w1, hw1⟩ : ∃ x, x = (wr.alloc (.cells #[.int .i32 0, .int .i64 0, .int .i64 0, .slice none 0 0, .int .i32 0, .int .i32 0, .int .i32 0, .int .i32 0, .int .i64 0, .int .i64 0, .int .u32 0, .int .i64 0, .int .i32 0] 101)).setRow wr.heap.size (waitA ((t, .slice Ax t.st.length cx), id)) := ⟨_, rfl⟩
            have hX1 : w1.heap[wr.heap.size]? = some (.cells (waitA ((t, .slice Ax t.st.length cx), id)) 101 (0, 0)) := by rw [hw1]; exact row_at HZ.out _
            have hB1 : Below wr.heap.size wr w1 := by rw [hw1]; exact (below_alloc wr _).trans (row_below (Nat.le_refl _))
            have hsz1 : wr.heap.size < w1.heap.size := (Array.getElem?_eq_some_iff.1 hX1).1
            have HT1 := Lib.hid (task_of_wait (x := ((t, .slice Ax t.st.length cx), id)) hX1)
            have HO1 : Hid (w1.ownsRow wo.heap.size 89 12 (.slice A7 j c7) j (rowE slotA (((L.drop n).take j).map Prod.fst))) := Lib.hid (by
              have h1 := ownsRow_keep ho7 (w' := w1) fun b e => hB1.block b (World.ownsRow.lt ho7 b e).2
              rwa [hlen7] at h1)
            have hwo : wo.heap.size ≤ w1.heap.size := by have := hb7.size; omega
            have HB1 : Hid (Below wo.heap.size wo w1) := Lib.hid (hb7.trans (hB1.mono hb7.size))
            have HW1 := Lib.hid hw1
            obtain ⟨L7, hL7⟩ : ∃ X, ((L.drop n).take j).map Prod.fst = X := ⟨_, rfl⟩
            rw [hL7] at HTK HO1 HLEN7
            clear HO7 ho7 hlen7 hL7
            clear hP2 hg hrg hx hjl hX1 hB1 hw1 hb7
            generalize t.st.length = m at *
            go_wp2_with (first | (refine load_waitMid rfl _ rfl g (n * 13 + j * 13) ((t, .slice Ax m cx), id) rfl HRG.out ?_; simp only [waitA]) | (refine store_wait rfl _ _ rfl rfl wr.heap.size ((t, .slice Ax m cx), id) rfl rfl _ zW HZ.out rfl ?_; rw [← HW1.out]) | (refine load_taskMid rfl _ rfl wr.heap.size 0 t (.slice Ax m cx) rfl HT1.out ?_; simp only [taskV, taskA]) | (at_builtin; go_must (refine wpList_append_new 93 89 _ 12 96 Try.underlying93 inf_task rfl (by decide) (by decide) rfl (.tmp 57) (.tmp 60) rfl wo.heap.size _ _ _ _ (taskA t (.slice Ax m cx)).toList rfl rfl HO1.out rfl rfl ?d1 ?d2 ?d3 ?_)) | fail)
            case d1 => intro u hu; have := task_ones (t := t) (s := .slice Ax m cx) rfl; rw [Array.all_eq_true'] at this; exact this u (by simpa using hu)
            case d2 => omega
            all_goals try omega
            intro v3 w3 ho3 hg3 _
            have HO3 : Hid (OwnT w3 wo.heap.size v3 (((L.drop n).take (j + 1)).map Prod.fst)) := Lib.hid (by rw [HTK.out]; exact OwnT.snoc HLEN7.out.symm ho3)
            have HB3 : Hid (Below wo.heap.size wo w3) := Lib.hid (HB1.out.grown hg3 hwo (fun b e => (World.ownsRow.lt HO1.out b e).1))
            clear ho3 hg3
            go_wp2_with fail
            go_roundw
            case rel => exact ⟨j + 1, by omega, by go_num, HO3.out, HB3.out⟩
            case measure => simp [intOf]; omega
          · obtain rfl : M = j := by omega
            have HDR : Hid (((L.drop n).take M).map Prod.fst = (L.drop n).map Prod.fst) := Lib.hid (by rw [List.take_of_length_le (by rw [List.length_drop, HN.out]; omega)])
            rw [HDR.out] at HO7
            obtain ⟨S', f1, f2, f3, f4⟩ := H.out.looked HK2.out HO7.out HB7.out
            have HFIN : Hid (PkLk w S a Ls L F n (.returned (.tuple #[.slice A6 (wokeL Ls (L.take n)).length c6, .slice A7 M c7, .int .i64 ((F - n : Nat) : Int)])) (wr.setCell ⟨a, 0, none⟩ (.slice A10 (stayL Ls (L.take n)).length c10))) := Lib.hid ⟨_, _, _, S', rfl, f1, f2, f3, f4⟩
            have c9 : wr.cell? ⟨a, 0, none⟩ = some (.slice (some ⟨g, 0, none⟩) N c) := (hb7.cell (p := ⟨a, 0, none⟩) hbx).trans c0
            have f9 : wr.frozen? ⟨a, 0, none⟩ = false := (hb7.frozen (p := ⟨a, 0, none⟩) hbx).trans (frozen_blk HP.out.blk 0)
            have esub : IntKind.i64.wrap ((F : Int) - (n : Int)) = ((F - n : Nat) : Int) := by rw [IntWalk.i64_in _ (by omega)]; omega
            clear f1 f2 f3 f4 ho7 hb7
            go_wp2_with fail
            go_ret3
            exact HFIN.out

end Go.Proofs.Ytboelofkbhgmfaa
