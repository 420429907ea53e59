/- Records in memory; the log: New, Add, All. -/
import Derived.Test.YtmcphlklknfbmaaStp
import Derived.Test.YtmcphlklknfbmaaApn8
import Derived.Test.YtmcphlklknfbmaaSto12
import Derived.Laws.Rows
import Derived.Laws.Tables
import Derived.Laws.CopyRow
import Derived.Deep.MidRow
import Derived.IntWalk
namespace Go.Proofs.Ytmcphlklknfbmaa
set_option maxRecDepth 100000
open Go.RowKit

/-- A record. -/
structure RecX where
  sq : Int
  gt : Int
  tt : Int
  vl : Int
  rd : Int
  bb : Int
def recA (x : RecX) : Array Value := #[.int .i64 x.sq, .int .i64 x.gt, .int .i64 x.tt, .int .i32 x.vl, .int .i64 x.rd, .int .i32 x.bb]
theorem recA_size (x : RecX) : (recA x).size = 6 := rfl
theorem rec_one (x : RecX) : ∀ u ∈ recA x, u.oneCell' = true := by
  intro u hu
  simp [recA] at hu
  rcases hu with rfl | rfl | rfl | rfl | rfl | rfl <;> rfl
theorem recs_one (L : List RecX) : ∀ u ∈ rowE recA L, u.oneCell' = true := by
  intro u hu
  obtain ⟨x, _, hx⟩ := List.mem_flatMap.1 hu
  exact rec_one x u (Array.mem_toList_iff.1 hx)
theorem inf_rec : (Try.prog.info? 59).map (fun i => (i.zero, i.size, i.bytes)) = some (some (.agg #[.int .i64 0, .int .i64 0, .int .i64 0, .int .i32 0, .int .i64 0, .int .i32 0]), 6, 48) := by kernel_rfl
theorem info_rec : (Try.prog.info? 59).map (·.size) = some 6 := by kernel_rfl
theorem rc_range_below {w w' : World} {g off : Nat} {xs : List Value} (h : w.rangeAt g off xs) (hb : Below w.heap.size w w') : w'.rangeAt g off xs := fun i u hu => by
  have h1 := h i u hu
  rw [hb.cell (p := ⟨g, off + i, none⟩) (World.block_lt_of_cell? w _ h1)]; exact h1
/-- A slice of records in memory. -/
def RcV (w : World) (v : Value) (L : List RecX) : Prop := ∃ A c, v = .slice A L.length c ∧ (L = [] ∨ ∃ g off, A = some ⟨g, off, none⟩ ∧ w.rangeAt g off (rowE recA L))
theorem RcV.later {w w' : World} {v : Value} {L : List RecX} (h : RcV w v L) (hb : Below w.heap.size w w') : RcV w' v L := by
  obtain ⟨A, c, e, h⟩ := h
  refine ⟨A, c, e, ?_⟩
  rcases h with h | ⟨g, off, e1, h⟩
  · exact .inl h
  · exact .inr ⟨g, off, e1, rc_range_below h hb⟩
theorem rc_part {w : World} {g off : Nat} {L : List RecX} (h : w.rangeAt g off (rowE recA L)) {j : Nat} (hj : j < L.length) : w.rangeAt g (off + j * 6) (recA L[j]).toList := fun i u hu => by
  have h1 := rowE_get recA_size (List.getElem?_eq_getElem hj) (j := i) (u := u) (by simpa using hu)
  have h2 := h _ _ h1
  rwa [← Nat.add_assoc] at h2
theorem RcV.at' {w : World} {A : Option Addr} {n c : Nat} {L : List RecX} (h : RcV w (.slice A n c) L) {j : Nat} (hj : j < L.length) : ∃ g off, A = some ⟨g, off, none⟩ ∧ w.rangeAt g (off + j * 6) (recA L[j]).toList := by
  obtain ⟨A', c', e, h⟩ := h
  injection e with e _ _
  subst e
  rcases h with e | ⟨g, off, e1, h⟩
  · rw [e] at hj; simp at hj
  · exact ⟨g, off, e1, rc_part h hj⟩
/-- Records of the call's own. -/
def OwnR (w : World) (base : Nat) (v : Value) (L : List RecX) : Prop := w.ownsRow base 59 6 v L.length (rowE recA L)
theorem OwnR.nil (w : World) (base : Nat) : OwnR w base (.slice none 0 0) [] := World.ownsRow_nil w base _ 6
theorem OwnR.shape {w : World} {base : Nat} {v : Value} {L : List RecX} (h : OwnR w base v L) : ∃ A c, v = .slice A L.length c := by
  rcases h.2 with ⟨h1, h2⟩ | ⟨g, cap, _, hv, _⟩
  · exact ⟨none, 0, by rw [h1, h2]⟩
  · exact ⟨_, cap, hv⟩
theorem OwnR.rc {w : World} {base : Nat} {v : Value} {L : List RecX} (h : OwnR w base v L) : RcV w v L := by
  obtain ⟨A, c, e⟩ := h.shape
  refine ⟨A, c, e, ?_⟩
  rcases h.2 with ⟨h1, h2⟩ | ⟨g, cap, _, hv, _⟩
  · rw [e] at h1
    exact .inl (List.eq_nil_of_length_eq_zero h2)
  · rw [e] at hv
    injection hv with hv _ _
    refine .inr ⟨g, 0, hv, fun i u hu => ?_⟩
    have h2 := h.cells (g := g) (by rw [e, hv]; rfl) _ _ hu
    have ea : (⟨g, 0, none⟩ : Addr).add i = ⟨g, 0 + i, none⟩ := by unfold Addr.add; split <;> simp_all
    rwa [ea] at h2
theorem OwnR.keep {w w' : World} {base : Nat} {v : Value} {L : List RecX} (h : OwnR w base v L) (hb : Below w.heap.size w w') : OwnR w' base v L := ownsRow_keep h fun k e => hb.block k (World.ownsRow.lt h k e).2
theorem OwnR.snoc {w : World} {base n : Nat} {v : Value} {L : List RecX} {x : RecX} (hn : n = L.length) (h : w.ownsRow base 59 6 v (n + 1) (rowE recA L ++ (recA x).toList)) : OwnR w base v (L ++ [x]) := by
  subst hn
  unfold OwnR
  rw [List.length_append, rowE_append]
  simpa [rowE] using h
section
variable {ops : Array Oper} {rest : List Oper} {o : Oper} {a : Act} {w : World} {Q : Exit → Act → World → Prop}
theorem load_recMid (hgd : o.guard = none) (x : Operand) (ho : o.op = .load 59 x) (g off : Nat) (y : RecX) (hx : a.eval x = .pointer (some ⟨g, off, none⟩)) (hg : w.rangeAt g off (recA y).toList)
    (h : wpList Try.prog ops Q rest (a.put o.dst (.agg (recA y))) w) : wpList Try.prog ops Q (o :: rest) a w :=
  wpList_load_mid hgd _ x ho g off hx (recA y).toList _ hg Try.underlying59 rfl info_rec h
end
/-- The log: block a, its list, in blocks of S. -/
structure LogK (w : World) (S : Nat → Prop) (a : Nat) (v : Value) (L : List RecX) : Prop where
  blk : w.heap[a]? = some (.cells #[v] 126 (0, 0))
  own : OwnR w 0 v L
  vS : ∀ k, v.ownBlock = some k → S k ∧ k ≠ a
  aS : S a
  lt : ∀ k, S k → k < w.heap.size
def LogV (w : World) (S : Nat → Prop) (a : Nat) (L : List RecX) : Prop := ∃ v, LogK w S a v L
section
variable {w w' : World} {S T : Nat → Prop} {a : Nat} {v : Value} {L : List RecX}
theorem LogK.keep (h : LogK w S a v L) (hf : Frm T w w') (hd : ∀ i, S i → ¬ T i) : LogK w' S a v L :=
  ⟨(hf.block a (h.lt a h.aS) (hd a h.aS)).trans h.blk, ownsRow_keep h.own fun k hk => hf.block k (h.lt k (h.vS k hk).1) (hd k (h.vS k hk).1), h.vS, h.aS, fun k hk => Nat.lt_of_lt_of_le (h.lt k hk) hf.size⟩
theorem LogV.below (h : LogV w S a L) (hb : Below w.heap.size w w') : LogV w' S a L := by
  obtain ⟨v, h⟩ := h; exact ⟨v, h.keep (T := fun _ => False) (Frm.of_below hb) fun _ _ => id⟩
end
/-- A new log. -/
def LogNew (w : World) (e : Ending) (w' : World) : Prop := ∃ a, e = .returned (.pointer (some ⟨a, 0, none⟩)) ∧ LogV w' (fun k => k = a) a [] ∧ w.heap.size ≤ a ∧ Below w.heap.size w w'
theorem logNew_any (w : World) : Calls Try.prog 34 #[] w (LogNew w) := by
  go_enter Try.func34, Try.ntmps34
  go_wp2_with fail
  go_ret
  exact ⟨w.heap.size, rfl, ⟨_, heap_alloc_new w _, OwnR.nil _ _, (fun k e => by cases e), rfl, (fun k e => by subst e; simp)⟩, Nat.le_refl _, below_alloc w _⟩
theorem LogK.add {w wQ : World} {S : Nat → Prop} {a : Nat} {v vQ : Value} {L L2 : List RecX} (h : LogK w S a v L) (oQ : OwnR wQ 0 vQ (L ++ L2)) (gQ : w.grownBy wQ v.ownBlock) (bQ : vQ.ownBlock = v.ownBlock ∨ ∃ k, vQ.ownBlock = some k ∧ w.heap.size ≤ k) :
    ∃ S', LogV (wQ.setCell ⟨a, 0, none⟩ vQ) S' a (L ++ L2) ∧ Stp S S' w (wQ.setCell ⟨a, 0, none⟩ vQ) := by
  have hv : ∀ k, v.ownBlock = some k → S k ∧ k ≠ a ∧ k < w.heap.size := fun k e => ⟨(h.vS k e).1, (h.vS k e).2, h.lt k (h.vS k e).1⟩
  have hla := h.lt a h.aS
  have hgs := gQ.size
  have hq : ∀ k, vQ.ownBlock = some k → (v.ownBlock = some k ∨ w.heap.size ≤ k) ∧ k < wQ.heap.size := fun k e => by
    refine ⟨?_, (World.ownsRow.lt oQ k e).2⟩
    rcases bQ with e2 | ⟨k2, e2, h4⟩
    · exact .inl (e2.symm.trans e)
    · rw [e2] at e; injection e with e; exact .inr (by omega)
  have hset : ∀ k, k ≠ a → (wQ.setCell ⟨a, 0, none⟩ vQ).heap[k]? = wQ.heap[k]? := fun k hk => Below.heap_setCell _ _ _ _ hk
  have hsz2 : (wQ.setCell ⟨a, 0, none⟩ vQ).heap.size = wQ.heap.size := by simp [World.setCell]
  have hF : Frm (fun k => k = a ∨ v.ownBlock = some k) w (wQ.setCell ⟨a, 0, none⟩ vQ) := by
    refine ⟨gQ.os, gQ.tape, gQ.output, by rw [hsz2]; omega, fun k hk hne => ?_⟩
    rw [hset k (fun e => hne (.inl e))]
    exact gQ.block k hk (fun e => hne (.inr e.symm))
  have hqa : ∀ k, vQ.ownBlock = some k → k ≠ a := fun k e e2 => by
    subst e2
    rcases (hq k e).1 with e3 | e3
    · exact (hv k e3).2.1 rfl
    · omega
  refine ⟨fun k => S k ∨ vQ.ownBlock = some k, ⟨vQ, ?_, ownsRow_keep oQ fun k e => hset k (hqa k e), fun k e => ⟨.inr e, hqa k e⟩, .inl h.aS, ?_⟩, ?_, ?_, ?_⟩
  · have e1 := (gQ.block a hla (fun e => (hv a e.symm).2.1 rfl)).trans h.blk
    rw [set_blk e1]; rfl
  · intro k hk
    rw [hsz2]
    rcases hk with hk | hk
    · have := h.lt k hk; omega
    · exact (hq k hk).2
  · refine hF.more fun i _ hi => ?_
    rcases hi with rfl | hi
    · exact h.aS
    · exact (hv i hi).1
  · intro i hi hS
    rcases hS with hS | hS
    · exact hS
    · rcases (hq i hS).1 with e | e
      · exact (hv i e).1
      · omega
  · intro k hk
    rw [hsz2]
    rcases hk with hk | hk
    · have := h.lt k hk; omega
    · exact (hq k hk).2
def LogAdd (w : World) (S : Nat → Prop) (a : Nat) (L : List RecX) (e : Ending) (w' : World) : Prop := e = .returned (.tuple #[]) ∧ ∃ S', LogV w' S' a L ∧ Stp S S' w w'
@[go_sem] theorem eql_nilR_no (n c : Nat) (w : World) : Sem.run Try.prog (binOp .eql 44 (.slice none n c) (.slice none 0 0)) w = .ok (.bool true) w := by kernel_rfl
@[go_sem] theorem eql_nilR_yes (a : Addr) (n c : Nat) (w : World) : Sem.run Try.prog (binOp .eql 44 (.slice (some a) n c) (.slice none 0 0)) w = .ok (.bool false) w := by kernel_rfl
/-- A copy. -/
def ClR (w : World) (L : List RecX) (e : Ending) (w' : World) : Prop := ∃ v, e = .returned v ∧ OwnR w' w.heap.size v L ∧ Below w.heap.size w w'
set_option maxRecDepth 100000 in
set_option maxHeartbeats 8000000 in
theorem cloneR_any {w : World} {v : Value} {l : List RecX} (h : OwnR w 0 v l) (hn : l.length ≤ 100000) :
    Calls Try.prog 73 #[v] w (ClR w l) := by
  obtain ⟨n, e1⟩ : ∃ n, l.length = n := ⟨_, rfl⟩
  have E1 := Lib.hid e1
  have HLEN : Hid ((rowE recA l).length = n * 6) := Lib.hid (by rw [rowE_length recA_size, e1])
  unfold OwnR at h
  rw [e1] at h hn
  have HH := Lib.hid h
  rcases h.2 with ⟨rfl, h0⟩ | ⟨g, cap, cur, rfl, _, hg, _⟩
  · have hl : l = [] := List.eq_nil_of_length_eq_zero (by omega)
    have HF : Hid (ClR w l (.returned (.slice none 0 0)) w) := Lib.hid ⟨_, rfl, by rw [hl]; exact OwnR.nil _ _, Below.refl _ _⟩
    clear e1 h h0 hl
    go_enter Try.func73, Try.ntmps73
    go_wp2_with fail
    go_ret
    exact HF.out
  · have hw2 : Hid ((w.alloc (.cells #[] 59)).ownsRow w.heap.size 59 6 (.slice (some ⟨w.heap.size, 0, none⟩) 0 0) 0 []) :=
      Lib.hid ⟨rfl, .inr ⟨_, 0, #[], rfl, Nat.le_refl _, heap_alloc_new w _, Nat.le_refl _, Nat.zero_le _, rfl, rfl⟩⟩
    have B2 := Lib.hid (below_alloc w (.cells #[] 59))
    have HCE : Hid (∀ j u, (rowE recA l)[j]? = some u → (w.alloc (.cells #[] 59)).cell? ((⟨g, 0, none⟩ : Addr).add j) = some u) := Lib.hid fun j u hu => by
      have h1 := (HH.out.alloc (.cells #[] 59)).cells (g := g) rfl j u hu
      exact h1
    obtain ⟨i0, hi, hq⟩ : ∃ i0, Try.prog.info? 59 = some i0 ∧ (i0.zero, i0.size, i0.bytes) = (some (.agg #[.int .i64 0, .int .i64 0, .int .i64 0, .int .i32 0, .int .i64 0, .int .i32 0]), 6, 48) := by
      have hinf := inf_rec
      cases hI : Try.prog.info? 59 with
      | none => rw [hI] at hinf; cases hinf
      | some i0 => rw [hI] at hinf; exact ⟨i0, rfl, by simpa using hinf⟩
    injection hq with hq1 hq2
    injection hq2 with hq2 hq3
    have HI := Lib.hid hi; have HQ1 := Lib.hid hq1; have HQ2 := Lib.hid hq2; have HQ3 := Lib.hid hq3
    clear e1 h hg hi hq1 hq2 hq3
    go_enter Try.func73, Try.ntmps73
    go_wp2_with (at_builtin; go_must (refine wpList_append_own _ rfl (.tmp 5) (.tmp 6) 44 rfl w.heap.size 59 i0 _ 6 48 Try.underlying44 HI.out HQ1.out HQ2.out HQ3.out rfl (by decide) _ 0 [] rfl hw2.out ⟨g, 0, none⟩ n cap (rowE recA l) rfl HLEN.out HCE.out (recs_one l) ?c1 ?c2 ?c3 ?_))
    case c1 => unfold maxLen; omega
    case c2 => omega
    case c3 => exact B2.out.size
    intro v3 w3 ho3 hg3 _
    have HF : Hid (ClR w l (.returned v3) w3) := Lib.hid ⟨v3, rfl, by unfold OwnR; rw [E1.out]; simpa using ho3, B2.out.grown hg3 B2.out.size (fun k hk => by have := (hw2.out.lt k hk).1; omega)⟩
    obtain ⟨A3, n3, c3, rfl⟩ : ∃ A n c, v3 = .slice A n c := by
      rcases ho3.2 with ⟨rfl, _⟩ | ⟨g, cap, cur, rfl, _⟩
      · exact ⟨_, _, _, rfl⟩
      · exact ⟨_, _, _, rfl⟩
    clear ho3 hg3
    go_wp2_with fail
    go_ret
    exact HF.out
/-- All. -/
theorem logAll_any {w : World} {S : Nat → Prop} {a : Nat} {L : List RecX} (h : LogV w S a L) (hn : L.length ≤ 100000) : Calls Try.prog 40 #[.pointer (some ⟨a, 0, none⟩)] w (ClR w L) := by
  obtain ⟨v, h⟩ := h
  obtain ⟨A, c, rfl⟩ := h.own.shape
  have c0 : w.cell? ⟨a, 0, none⟩ = some (.slice A L.length c) := cell_blk h.blk 0
  have HC := Lib.hid (cloneR_any h.own hn)
  clear h
  generalize L.length = n at *
  go_enter Try.func40, Try.ntmps40
  go_wp2_with fail
  refine HC.out.mono ?_
  rintro e w1 ⟨v1, rfl, ho, hb⟩
  have HF : Hid (ClR w L (.returned v1) w1) := Lib.hid ⟨v1, rfl, ho, hb⟩
  obtain ⟨A1, c1, rfl⟩ := ho.shape
  clear ho hb
  go_wp2_with fail
  go_ret
  exact HF.out

end Go.Proofs.Ytmcphlklknfbmaa
