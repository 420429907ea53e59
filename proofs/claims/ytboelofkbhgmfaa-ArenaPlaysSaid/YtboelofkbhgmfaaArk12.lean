/- An arena beside the reference's. -/
import Derived.Test.YtboelofkbhgmfaaRgR12
import Derived.Test.YtboelofkbhgmfaaKn12
namespace Go.Proofs.Ytboelofkbhgmfaa
set_option maxRecDepth 100000
open Go.RowKit

/-- The program's arena (La) and the reference's (Lr), in blocks that the call made; X: other blocks, and what they hold. -/
structure ArK (w wr : World) (a g : Nat) (qs : List Int) (La Lr : List (List RefX)) (X : List (Nat × Obj)) : Prop where
  ex : ∃ S T, ArV wr S a qs La ∧ RfRV wr T g qs Lr ∧ (∀ i, S i → ¬ T i) ∧ (∀ i, S i → w.heap.size ≤ i) ∧ (∀ i, T i → w.heap.size ≤ i) ∧ ∀ p ∈ X, wr.heap[p.1]? = some p.2 ∧ ¬ S p.1 ∧ ¬ T p.1
  bl : Below w.heap.size w wr
section
variable {w wr w' : World} {S S' T T' : Nat → Prop} {a g : Nat} {qs : List Int} {La La' Lr Lr' : List (List RefX)} {X : List (Nat × Obj)}
theorem ArK.below (h : ArK w wr a g qs La Lr X) (hb : Below wr.heap.size wr w') : ArK w w' a g qs La Lr X := by
  obtain ⟨S, T, h1, h2, h3, h4, h5, h6⟩ := h.ex
  exact ⟨⟨S, T, h1.below hb, h2.below hb, h3, h4, h5, fun p hp => ⟨(hb.block _ (Array.getElem?_eq_some_iff.1 (h6 p hp).1).1).trans (h6 p hp).1, (h6 p hp).2⟩⟩, h.bl.trans (hb.mono h.bl.size)⟩
theorem ArK.one (hb : Below w.heap.size w wr) (h2 : RfRV wr T g qs Lr) (h3 : ∀ i, S i → ¬ T i) (h4 : ∀ i, S i → w.heap.size ≤ i) (h5 : ∀ i, T i → w.heap.size ≤ i) (hX : ∀ p ∈ X, wr.heap[p.1]? = some p.2 ∧ ¬ S p.1 ∧ ¬ T p.1) (h : ArV w' S' a qs La') (hs : Stp S S' wr w') : ArK w w' a g qs La' Lr X := by
  refine ⟨⟨S', T, h, h2.keep hs.frm fun i hi e => h3 i e hi, hs.apart h2.lt h3, hs.low h4 hb.size, h5, fun p hp => ?_⟩, hb.trans (hs.below h4 hb.size)⟩
  obtain ⟨e1, e2, e3⟩ := hX p hp
  have hlt := (Array.getElem?_eq_some_iff.1 e1).1
  exact ⟨(hs.frm.block _ hlt e2).trans e1, fun e => e2 (hs.old _ hlt e), e3⟩
theorem ArK.two (hb : Below w.heap.size w wr) (h1 : ArV wr S a qs La) (h3 : ∀ i, S i → ¬ T i) (h4 : ∀ i, S i → w.heap.size ≤ i) (h5 : ∀ i, T i → w.heap.size ≤ i) (hX : ∀ p ∈ X, wr.heap[p.1]? = some p.2 ∧ ¬ S p.1 ∧ ¬ T p.1) (h : RfRV w' T' g qs Lr') (hs : Stp T T' wr w') : ArK w w' a g qs La Lr' X := by
  refine ⟨⟨S, T', h1.keep hs.frm h3, h, fun i hi e => hs.apart h1.lt (fun i hi e => h3 i e hi) i e hi, h4, hs.low h5 hb.size, fun p hp => ?_⟩, hb.trans (hs.below h5 hb.size)⟩
  obtain ⟨e1, e2, e3⟩ := hX p hp
  have hlt := (Array.getElem?_eq_some_iff.1 e1).1
  exact ⟨(hs.frm.block _ hlt e3).trans e1, e2, fun e => e3 (hs.old _ hlt e)⟩
theorem ArK.add (h : ArK w wr a g qs La Lr X) (o : Obj) : ArK w (wr.alloc o) a g qs La Lr ((wr.heap.size, o) :: X) := by
  obtain ⟨S, T, h1, h2, h3, h4, h5, h6⟩ := (h.below (below_alloc wr o)).ex
  obtain ⟨S0, T0, k1, k2, k3, k4, k5, k6⟩ := h.ex
  have hb := below_alloc wr o
  refine ⟨⟨S0, T0, k1.below hb, k2.below hb, k3, k4, k5, fun p hp => ?_⟩, h.bl.trans (hb.mono h.bl.size)⟩
  rcases List.mem_cons.1 hp with rfl | hp
  · exact ⟨heap_alloc_new wr o, fun e => by have := k1.lt _ e; omega, fun e => by have := k2.lt _ e; omega⟩
  · obtain ⟨e1, e2⟩ := k6 p hp
    exact ⟨(hb.block _ (Array.getElem?_eq_some_iff.1 e1).1).trans e1, e2⟩
theorem ArK.sub (h : ArK w wr a g qs La Lr X) : ArK w wr a g qs La Lr [] := by
  obtain ⟨S, T, h1, h2, h3, h4, h5, _⟩ := h.ex
  exact ⟨⟨S, T, h1, h2, h3, h4, h5, fun p hp => by cases hp⟩, h.bl⟩
theorem ArK.box (h : ArK w wr a g qs La Lr X) {p : Nat × Obj} (hp : p ∈ X) : wr.heap[p.1]? = some p.2 := by
  obtain ⟨S, T, _, _, _, _, _, h6⟩ := h.ex
  exact (h6 p hp).1
def AkM (w : World) (a g : Nat) (qs : List Int) (La Lr : List (List RefX)) (X : List (Nat × Obj)) (id : Int) (b : Bool) (e : Ending) (w' : World) : Prop := e = .returned (.tuple #[.int .i32 id, .bool b]) ∧ ArK w w' a g qs La Lr X
def AkG (w : World) (a g : Nat) (qs : List Int) (La Lr : List (List RefX)) (X : List (Nat × Obj)) (x : RefX) (b : Bool) (e : Ending) (w' : World) : Prop := e = .returned (.tuple #[.agg (refA x), .bool b]) ∧ ArK w w' a g qs La Lr X
def AkB (w : World) (a g : Nat) (qs : List Int) (La Lr : List (List RefX)) (X : List (Nat × Obj)) (b : Bool) (e : Ending) (w' : World) : Prop := e = .returned (.bool b) ∧ ArK w w' a g qs La Lr X
theorem akMake (h : ArK w wr a g qs La Lr X) (p lb v : Int) (hp : -9223372036854775808 ≤ p ∧ p ≤ 9223372036854775807) :
    Calls Try.prog 19 #[.pointer (some ⟨a, 0, none⟩), .int .i64 p, .int .i64 lb, .int .i32 v] wr (AkM w a g qs (mkL qs La p ⟨lb, v⟩) Lr X (mkId qs La p) (mkB qs La p)) := by
  obtain ⟨S, T, h1, h2, h3, h4, h5, hX⟩ := h.ex
  refine (arMake_any h1 p lb v hp).mono ?_
  rintro e w' ⟨rfl, S', h6, h7⟩
  exact ⟨rfl, ArK.one h.bl h2 h3 h4 h5 hX h6 h7⟩
theorem akMakeR (h : ArK w wr a g qs La Lr X) (p lb v : Int) (hp : -9223372036854775808 ≤ p ∧ p ≤ 9223372036854775807) :
    Calls Try.prog 20 #[.pointer (some ⟨g, 0, none⟩), .int .i64 p, .int .i64 lb, .int .i32 v] wr (AkM w a g qs La (mkL qs Lr p ⟨lb, v⟩) X (mkId qs Lr p) (mkB qs Lr p)) := by
  obtain ⟨S, T, h1, ⟨hB, qA, qc, tb, vs, h2⟩, h3, h4, h5, hX⟩ := h.ex
  refine (rMakeR_any h2 hB p lb v hp).mono ?_
  rintro e w' ⟨rfl, S', vs', h6, h7⟩
  exact ⟨rfl, ArK.two h.bl h1 h3 h4 h5 hX ⟨hB.mk' _, qA, qc, tb, vs', h6⟩ h7⟩
theorem akGet (h : ArK w wr a g qs La Lr X) (id : Int) (hid : -2147483648 ≤ id ∧ id ≤ 2147483647) :
    Calls Try.prog 21 #[.pointer (some ⟨a, 0, none⟩), .int .i32 id] wr (AkG w a g qs La Lr X (itmZ La id zR) (isIn La id)) := by
  obtain ⟨S, T, h1, _⟩ := h.ex
  refine (arGet_any h1 id hid).mono ?_
  rintro e w' ⟨rfl, hb⟩
  exact ⟨rfl, h.below hb⟩
theorem akGetR (h : ArK w wr a g qs La Lr X) (id : Int) (hid : -2147483648 ≤ id ∧ id ≤ 2147483647) :
    Calls Try.prog 22 #[.pointer (some ⟨g, 0, none⟩), .int .i32 id] wr (AkG w a g qs La Lr X (itmZ Lr id zR) (isIn Lr id)) := by
  obtain ⟨S, T, _, ⟨hB, qA, qc, tb, vs, h2⟩, _⟩ := h.ex
  refine (rGetR_any h2 hB id hid).mono ?_
  rintro e w' ⟨rfl, hb⟩
  exact ⟨rfl, h.below hb⟩
theorem akSet (h : ArK w wr a g qs La Lr X) (id v : Int) (hid : -2147483648 ≤ id ∧ id ≤ 2147483647) :
    Calls Try.prog 23 #[.pointer (some ⟨a, 0, none⟩), .int .i32 id, .int .i32 v] wr (AkB w a g qs (setZ La id fun x => { x with v := v }) Lr X (isIn La id)) := by
  obtain ⟨S, T, h1, h2, h3, h4, h5, hX⟩ := h.ex
  refine (arSet_any h1 id v hid).mono ?_
  rintro e w' ⟨rfl, S', h6, h7⟩
  exact ⟨rfl, ArK.one h.bl h2 h3 h4 h5 hX h6 h7⟩
theorem akSetR (h : ArK w wr a g qs La Lr X) (id v : Int) (hid : -2147483648 ≤ id ∧ id ≤ 2147483647) :
    Calls Try.prog 24 #[.pointer (some ⟨g, 0, none⟩), .int .i32 id, .int .i32 v] wr (AkB w a g qs La (setZ Lr id fun x => { x with v := v }) X (isIn Lr id)) := by
  obtain ⟨S, T, h1, ⟨hB, qA, qc, tb, vs, h2⟩, h3, h4, h5, hX⟩ := h.ex
  refine (rSetR_any h2 hB id v hid).mono ?_
  rintro e w' ⟨rfl, h6, h7⟩
  exact ⟨rfl, ArK.two h.bl h1 h3 h4 h5 hX ⟨hB.set' _, qA, qc, tb, vs, h6⟩ h7⟩
theorem akCount (h : ArK w wr a g qs La Lr X) (p : Int) : Calls Try.prog 25 #[.pointer (some ⟨a, 0, none⟩), .int .i64 p] wr fun e w' => e = .returned (.int .i64 (cntZ La p : Nat)) ∧ wr = w' := by
  obtain ⟨S, T, h1, _⟩ := h.ex
  exact arCount_any h1 p
theorem akCountR (h : ArK w wr a g qs La Lr X) (p : Int) : Calls Try.prog 26 #[.pointer (some ⟨g, 0, none⟩), .int .i64 p] wr fun e w' => e = .returned (.int .i64 (cntZ Lr p : Nat)) ∧ wr = w' := by
  obtain ⟨S, T, _, ⟨hB, qA, qc, tb, vs, h2⟩, _⟩ := h.ex
  exact rCountR_any h2 p
/-- The reference's table, as the law reads it. -/
theorem ArK.tab (h : ArK w wr a g qs La Lr X) : Lr.length ≤ 16 ∧ (∀ k (hk : k < Lr.length), Lr[k].length ≤ 4096) ∧ ∃ tb, wr.cell? ⟨g, 1, none⟩ = some (.slice (some ⟨tb, 0, none⟩) Lr.length Lr.length) ∧
    ∀ k (hk : k < Lr.length), ∃ A c, wr.cell? ⟨tb, k, none⟩ = some (.slice A Lr[k].length c) ∧ ∀ j (hj : j < Lr[k].length), ∃ gr, A = some ⟨gr, 0, none⟩ ∧ wr.cell? ⟨gr, j * 2, none⟩ = some (.int .i64 Lr[k][j].lb) ∧ wr.cell? ⟨gr, j * 2 + 1, none⟩ = some (.int .i32 Lr[k][j].v) := by
  obtain ⟨S, T, _, ⟨hB, qA, qc, tb, vs, h2⟩, _⟩ := h.ex
  refine ⟨hB.n, hB.le, tb, cell_blk h2.blk 1, fun k hk => ?_⟩
  obtain ⟨A, c, _, c1, ho⟩ := h2.row_at hk
  refine ⟨A, c, c1, fun j hj => ?_⟩
  obtain ⟨gr, e, _, hc⟩ := own_itm ho refA_size hj
  exact ⟨gr, e, hc 0 _ rfl, hc 1 _ rfl⟩
end
/-- What was made is there, under its number. -/
theorem there_at (Ls : List (List RefX)) (hn : Ls.length ≤ 16) (hl : ∀ k (h : k < Ls.length), Ls[k].length ≤ 4096) {k j : Nat} (hk : k < Ls.length) (hj : j < Ls[k].length) :
    isIn Ls ((k : Int) * 65536 + (j : Int)) = true ∧ itmZ Ls ((k : Int) * 65536 + (j : Int)) zR = Ls[k][j] := by
  have hlk := hl k hk
  have h0 : (0 : Int) ≤ (k : Int) * 65536 + (j : Int) := by omega
  have e1 : labelZ ((k : Int) * 65536 + (j : Int)) = (k : Int) := by rw [labelZ_pos h0]; omega
  have e2 : numberZ ((k : Int) * 65536 + (j : Int)) = (j : Int) := by rw [numberZ_pos h0]; omega
  have hv : validB ((k : Int) * 65536 + (j : Int)) Ls.length = true := by
    unfold validB; rw [e1, decide_eq_true h0, decide_eq_true (by omega)]; rfl
  have hi : isIn Ls ((k : Int) * 65536 + (j : Int)) = true := by
    unfold isIn
    rw [hv, e1, e2, cntZ_in hk]
    simp; omega
  refine ⟨hi, ?_⟩
  unfold itmZ
  rw [if_pos hi, e1, e2]
  simp [hk, hj]

end Go.Proofs.Ytboelofkbhgmfaa
