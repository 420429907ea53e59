/- Futures beside the reference's. -/
import Derived.Test.YtboelofkbhgmfaaSmF13
import Derived.Test.YtboelofkbhgmfaaKn13
namespace Go.Proofs.Ytboelofkbhgmfaa
set_option maxRecDepth 100000
open Go.RowKit

/-- The program's arena (La) and the reference's (Lr), in blocks that the call made; X: other blocks, and what they hold. -/
structure FpK (w wr : World) (a g : Nat) (qs : List Int) (La Lr : List (List FutX)) (X : List (Nat × Obj)) : Prop where
  ex : ∃ S T, FuV wr S a qs La ∧ RfFV wr T g qs Lr ∧ (∀ i, S i → ¬ T i) ∧ (∀ i, S i → w.heap.size ≤ i) ∧ (∀ i, T i → w.heap.size ≤ i) ∧ ∀ p ∈ X, wr.heap[p.1]? = some p.2 ∧ ¬ S p.1 ∧ ¬ T p.1
  bl : Below w.heap.size w wr
section
variable {w wr w' : World} {S S' T T' : Nat → Prop} {a g : Nat} {qs : List Int} {La La' Lr Lr' : List (List FutX)} {X : List (Nat × Obj)}
theorem FpK.below (h : FpK w wr a g qs La Lr X) (hb : Below wr.heap.size wr w') : FpK w w' a g qs La Lr X := by
  obtain ⟨S, T, h1, h2, h3, h4, h5, h6⟩ := h.ex
  exact ⟨⟨S, T, h1.below hb, h2.below hb, h3, h4, h5, fun p hp => ⟨(hb.block _ (Array.getElem?_eq_some_iff.1 (h6 p hp).1).1).trans (h6 p hp).1, (h6 p hp).2⟩⟩, h.bl.trans (hb.mono h.bl.size)⟩
theorem FpK.one (hb : Below w.heap.size w wr) (h2 : RfFV wr T g qs Lr) (h3 : ∀ i, S i → ¬ T i) (h4 : ∀ i, S i → w.heap.size ≤ i) (h5 : ∀ i, T i → w.heap.size ≤ i) (hX : ∀ p ∈ X, wr.heap[p.1]? = some p.2 ∧ ¬ S p.1 ∧ ¬ T p.1) (h : FuV w' S' a qs La') (hs : Stp S S' wr w') : FpK w w' a g qs La' Lr X := by
  refine ⟨⟨S', T, h, h2.keep hs.frm fun i hi e => h3 i e hi, hs.apart h2.lt h3, hs.low h4 hb.size, h5, fun p hp => ?_⟩, hb.trans (hs.below h4 hb.size)⟩
  obtain ⟨e1, e2, e3⟩ := hX p hp
  have hlt := (Array.getElem?_eq_some_iff.1 e1).1
  exact ⟨(hs.frm.block _ hlt e2).trans e1, fun e => e2 (hs.old _ hlt e), e3⟩
theorem FpK.two (hb : Below w.heap.size w wr) (h1 : FuV wr S a qs La) (h3 : ∀ i, S i → ¬ T i) (h4 : ∀ i, S i → w.heap.size ≤ i) (h5 : ∀ i, T i → w.heap.size ≤ i) (hX : ∀ p ∈ X, wr.heap[p.1]? = some p.2 ∧ ¬ S p.1 ∧ ¬ T p.1) (h : RfFV w' T' g qs Lr') (hs : Stp T T' wr w') : FpK w w' a g qs La Lr' X := by
  refine ⟨⟨S, T', h1.keep hs.frm h3, h, fun i hi e => hs.apart h1.lt (fun i hi e => h3 i e hi) i e hi, h4, hs.low h5 hb.size, fun p hp => ?_⟩, hb.trans (hs.below h5 hb.size)⟩
  obtain ⟨e1, e2, e3⟩ := hX p hp
  have hlt := (Array.getElem?_eq_some_iff.1 e1).1
  exact ⟨(hs.frm.block _ hlt e3).trans e1, e2, fun e => e3 (hs.old _ hlt e)⟩
theorem FpK.add (h : FpK w wr a g qs La Lr X) (o : Obj) : FpK w (wr.alloc o) a g qs La Lr ((wr.heap.size, o) :: X) := by
  obtain ⟨S, T, h1, h2, h3, h4, h5, h6⟩ := (h.below (below_alloc wr o)).ex
  obtain ⟨S0, T0, k1, k2, k3, k4, k5, k6⟩ := h.ex
  have hb := below_alloc wr o
  refine ⟨⟨S0, T0, k1.below hb, k2.below hb, k3, k4, k5, fun p hp => ?_⟩, h.bl.trans (hb.mono h.bl.size)⟩
  rcases List.mem_cons.1 hp with rfl | hp
  · exact ⟨heap_alloc_new wr o, fun e => by have := k1.lt _ e; omega, fun e => by have := k2.lt _ e; omega⟩
  · obtain ⟨e1, e2⟩ := k6 p hp
    exact ⟨(hb.block _ (Array.getElem?_eq_some_iff.1 e1).1).trans e1, e2⟩
theorem FpK.sub (h : FpK w wr a g qs La Lr X) : FpK w wr a g qs La Lr [] := by
  obtain ⟨S, T, h1, h2, h3, h4, h5, _⟩ := h.ex
  exact ⟨⟨S, T, h1, h2, h3, h4, h5, fun p hp => by cases hp⟩, h.bl⟩
theorem FpK.box (h : FpK w wr a g qs La Lr X) {p : Nat × Obj} (hp : p ∈ X) : wr.heap[p.1]? = some p.2 := by
  obtain ⟨S, T, _, _, _, _, _, h6⟩ := h.ex
  exact (h6 p hp).1
def FpM (w : World) (a g : Nat) (qs : List Int) (La Lr : List (List FutX)) (X : List (Nat × Obj)) (id : Int) (b : Bool) (e : Ending) (w' : World) : Prop := e = .returned (.tuple #[.int .i32 id, .bool b]) ∧ FpK w w' a g qs La Lr X
def FpG (w : World) (a g : Nat) (qs : List Int) (La Lr : List (List FutX)) (X : List (Nat × Obj)) (x : FutX) (b : Bool) (e : Ending) (w' : World) : Prop := e = .returned (.tuple #[.agg (futA x), .bool b]) ∧ FpK w w' a g qs La Lr X
def FpB (w : World) (a g : Nat) (qs : List Int) (La Lr : List (List FutX)) (X : List (Nat × Obj)) (b : Bool) (e : Ending) (w' : World) : Prop := e = .returned (.bool b) ∧ FpK w w' a g qs La Lr X
theorem fpMake (h : FpK w wr a g qs La Lr X) (p lb : Int) (hp : -9223372036854775808 ≤ p ∧ p ≤ 9223372036854775807) :
    Calls Try.prog 30 #[.pointer (some ⟨a, 0, none⟩), .int .i64 p, .int .i64 lb] wr (FpM w a g qs (mkL qs La p ⟨lb, 0, 0, 0⟩) Lr X (mkId qs La p) (mkB qs La p)) := by
  obtain ⟨S, T, h1, h2, h3, h4, h5, hX⟩ := h.ex
  refine (fuMake_any h1 p lb hp).mono ?_
  rintro e w' ⟨rfl, S', h6, h7⟩
  exact ⟨rfl, FpK.one h.bl h2 h3 h4 h5 hX h6 h7⟩
theorem fpMakeR (h : FpK w wr a g qs La Lr X) (p lb : Int) (hp : -9223372036854775808 ≤ p ∧ p ≤ 9223372036854775807) :
    Calls Try.prog 31 #[.pointer (some ⟨g, 0, none⟩), .int .i64 p, .int .i64 lb] wr (FpM w a g qs La (mkL qs Lr p ⟨lb, 0, 0, 0⟩) X (mkId qs Lr p) (mkB qs Lr p)) := by
  obtain ⟨S, T, h1, ⟨hB, qA, qc, tb, vs, h2⟩, h3, h4, h5, hX⟩ := h.ex
  refine (rMakeF_any h2 hB p lb hp).mono ?_
  rintro e w' ⟨rfl, S', vs', h6, h7⟩
  exact ⟨rfl, FpK.two h.bl h1 h3 h4 h5 hX ⟨hB.mk' _, qA, qc, tb, vs', h6⟩ h7⟩
theorem fpGet (h : FpK w wr a g qs La Lr X) (id : Int) (hid : -2147483648 ≤ id ∧ id ≤ 2147483647) :
    Calls Try.prog 36 #[.pointer (some ⟨a, 0, none⟩), .int .i32 id] wr (FpG w a g qs La Lr X (itmZ La id zF) (isIn La id)) := by
  obtain ⟨S, T, h1, _⟩ := h.ex
  refine (fuGet_any h1 id hid).mono ?_
  rintro e w' ⟨rfl, hb⟩
  exact ⟨rfl, h.below hb⟩
theorem fpGetR (h : FpK w wr a g qs La Lr X) (id : Int) (hid : -2147483648 ≤ id ∧ id ≤ 2147483647) :
    Calls Try.prog 37 #[.pointer (some ⟨g, 0, none⟩), .int .i32 id] wr (FpG w a g qs La Lr X (itmZ Lr id zF) (isIn Lr id)) := by
  obtain ⟨S, T, _, ⟨hB, qA, qc, tb, vs, h2⟩, _⟩ := h.ex
  refine (rGetF_any h2 hB id hid).mono ?_
  rintro e w' ⟨rfl, hb⟩
  exact ⟨rfl, h.below hb⟩
theorem fpKeep (h : FpK w wr a g qs La Lr X) (id v : Int) (hid : -2147483648 ≤ id ∧ id ≤ 2147483647) :
    Calls Try.prog 32 #[.pointer (some ⟨a, 0, none⟩), .int .i32 id, .int .i32 v] wr (FpB w a g qs (endL La id (keepF v)) Lr X (openB La id)) := by
  obtain ⟨S, T, h1, h2, h3, h4, h5, hX⟩ := h.ex
  refine (fuKeep_any h1 id v hid).mono ?_
  rintro e w' ⟨rfl, S', h6, h7⟩
  exact ⟨rfl, FpK.one h.bl h2 h3 h4 h5 hX h6 h7⟩
theorem fpBreak (h : FpK w wr a g qs La Lr X) (id v : Int) (hid : -2147483648 ≤ id ∧ id ≤ 2147483647) :
    Calls Try.prog 34 #[.pointer (some ⟨a, 0, none⟩), .int .i32 id, .int .i64 v] wr (FpB w a g qs (endL La id (breakF v)) Lr X (openB La id)) := by
  obtain ⟨S, T, h1, h2, h3, h4, h5, hX⟩ := h.ex
  refine (fuBreak_any h1 id v hid).mono ?_
  rintro e w' ⟨rfl, S', h6, h7⟩
  exact ⟨rfl, FpK.one h.bl h2 h3 h4 h5 hX h6 h7⟩
theorem fpEnd (h : FpK w wr a g qs La Lr X) (id s v c : Int) (hid : -2147483648 ≤ id ∧ id ≤ 2147483647) :
    Calls Try.prog 65 #[.pointer (some ⟨g, 0, none⟩), .int .i32 id, .int .i64 s, .int .i32 v, .int .i64 c] wr (FpB w a g qs La (endL Lr id (endF s v c)) X (openB Lr id)) := by
  obtain ⟨S, T, h1, ⟨hB, qA, qc, tb, vs, h2⟩, h3, h4, h5, hX⟩ := h.ex
  refine (rEnd_any h2 hB id s v c hid).mono ?_
  rintro e w' ⟨rfl, h6, h7⟩
  exact ⟨rfl, FpK.two h.bl h1 h3 h4 h5 hX ⟨hB.end' _, qA, qc, tb, vs, h6⟩ h7⟩
theorem fpKeepR (h : FpK w wr a g qs La Lr X) (id v : Int) (hid : -2147483648 ≤ id ∧ id ≤ 2147483647) :
    Calls Try.prog 33 #[.pointer (some ⟨g, 0, none⟩), .int .i32 id, .int .i32 v] wr (FpB w a g qs La (endL Lr id (endF 1 v 0)) X (openB Lr id)) := by
  have HE := Lib.hid (fpEnd h id 1 v 0 hid)
  clear h
  go_enter Try.func33, Try.ntmps33
  go_wp2_with fail
  refine HE.out.mono ?_
  rintro e w' ⟨rfl, h⟩
  have H := Lib.hid h
  clear h
  generalize openB Lr id = b at *
  go_wp2_with fail
  go_ret
  exact ⟨rfl, H.out⟩
theorem fpBreakR (h : FpK w wr a g qs La Lr X) (id v : Int) (hid : -2147483648 ≤ id ∧ id ≤ 2147483647) :
    Calls Try.prog 35 #[.pointer (some ⟨g, 0, none⟩), .int .i32 id, .int .i64 v] wr (FpB w a g qs La (endL Lr id (endF 2 0 v)) X (openB Lr id)) := by
  have HE := Lib.hid (fpEnd h id 2 0 v hid)
  clear h
  go_enter Try.func35, Try.ntmps35
  go_wp2_with fail
  refine HE.out.mono ?_
  rintro e w' ⟨rfl, h⟩
  have H := Lib.hid h
  clear h
  generalize openB Lr id = b at *
  go_wp2_with fail
  go_ret
  exact ⟨rfl, H.out⟩
theorem fpCount (h : FpK w wr a g qs La Lr X) (p : Int) : Calls Try.prog 38 #[.pointer (some ⟨a, 0, none⟩), .int .i64 p] wr fun e w' => e = .returned (.int .i64 (cntZ La p : Nat)) ∧ wr = w' := by
  obtain ⟨S, T, h1, _⟩ := h.ex
  exact fuCount_any h1 p
theorem fpCountR (h : FpK w wr a g qs La Lr X) (p : Int) : Calls Try.prog 39 #[.pointer (some ⟨g, 0, none⟩), .int .i64 p] wr fun e w' => e = .returned (.int .i64 (cntZ Lr p : Nat)) ∧ wr = w' := by
  obtain ⟨S, T, _, ⟨hB, qA, qc, tb, vs, h2⟩, _⟩ := h.ex
  exact rCountF_any h2 p
/-- All's table and the reference's, as SameFutures reads them. -/
def FpA (w wr : World) (a g : Nat) (qs : List Int) (La Lr : List (List FutX)) (X : List (Nat × Obj)) (e : Ending) (w' : World) : Prop := ∃ b, e = .returned (.slice (some ⟨b, 0, none⟩) La.length La.length) ∧ TabC w' b La ∧ FpK w w' a g qs La Lr X ∧ Below wr.heap.size wr w'
theorem fpAll (h : FpK w wr a g qs La Lr X) : Calls Try.prog 41 #[.pointer (some ⟨a, 0, none⟩)] wr (FpA w wr a g qs La Lr X) := by
  obtain ⟨S, T, h1, _⟩ := h.ex
  refine (fuAll_any h1).mono ?_
  rintro e w' ⟨⟨v, rfl, ht⟩, hb⟩
  have hlt : ∃ b, v = .slice (some ⟨b, 0, none⟩) La.length La.length ∧ b < w'.heap.size := by
    obtain ⟨b, vs, e, hb, _⟩ := ht
    exact ⟨b, e, (Array.getElem?_eq_some_iff.1 hb).1⟩
  obtain ⟨b, e, hr⟩ := ht.row
  obtain ⟨b2, e2, hlt⟩ := hlt
  have e3 : b = b2 := by rw [e] at e2; injection e2 with e2; injection e2 with e2; injection e2
  subst e3
  refine ⟨b, by rw [e], ⟨hlt, fun k hk => ?_⟩, h.below hb, hb⟩
  obtain ⟨A, c, hc, ho⟩ := hr k hk
  exact ⟨A, c, hc, row_cells ho⟩
/-- The reference's table, as the law reads it. -/
theorem FpK.tab (h : FpK w wr a g qs La Lr X) : Lr.length ≤ 16 ∧ (∀ k (hk : k < Lr.length), Lr[k].length ≤ 4096) ∧ ∃ tb, wr.cell? ⟨g, 1, none⟩ = some (.slice (some ⟨tb, 0, none⟩) Lr.length Lr.length) ∧ TabC wr tb Lr := by
  obtain ⟨S, T, _, ⟨hB, qA, qc, tb, vs, h2⟩, _⟩ := h.ex
  refine ⟨hB.n, hB.le, tb, cell_blk h2.blk 1, h2.lt tb h2.inS.2, fun k hk => ?_⟩
  obtain ⟨A, c, _, c1, ho⟩ := h2.row_at hk
  exact ⟨A, c, c1, row_cells ho⟩
end
/-- No open future has a value or a code. -/
def Opn (Ls : List (List FutX)) : Prop := ∀ l ∈ Ls, ∀ x ∈ l, x.st = 0 → x.v = 0 ∧ x.code = 0
theorem Opn.made {qs : List Int} {Ls : List (List FutX)} (h : Opn Ls) (p lb : Int) : Opn (mkL qs Ls p ⟨lb, 0, 0, 0⟩) := by
  unfold mkL
  split
  · intro l hl x hx hst
    rcases List.mem_or_eq_of_mem_set hl with hl | rfl
    · exact h l hl x hx hst
    · rw [List.mem_append, List.mem_singleton] at hx
      rcases hx with hx | rfl
      · by_cases hp : p.toNat < Ls.length
        · rw [List.getD_eq_getElem?_getD, List.getElem?_eq_getElem hp] at hx
          exact h _ (List.getElem_mem hp) x hx hst
        · rw [List.getD_eq_getElem?_getD, List.getElem?_eq_none (by omega)] at hx
          simp at hx
      · exact ⟨rfl, rfl⟩
  · exact h
/-- What ends an open future ends it to the same. -/
theorem Opn.ends {Ls : List (List FutX)} (h : Opn Ls) (hn : Ls.length ≤ 16) (id : Int) (f g : FutX → FutX) (hfg : ∀ x, x.st = 0 → x.v = 0 → x.code = 0 → f x = g x) (hs : ∀ x, (f x).st ≠ 0) : endL Ls id f = endL Ls id g ∧ Opn (endL Ls id f) := by
  cases ho : openB Ls id with
  | false => rw [endL_no ho, endL_no ho]; exact ⟨rfl, h⟩
  | true =>
    rw [endL_yes ho, endL_yes ho]
    unfold openB at ho
    rcases isIn_cases Ls id hn with ⟨_, hi⟩ | ⟨k, _, hk, j, _, _, _, ⟨_, hi⟩ | ⟨hj, hi, hit, hse⟩⟩
    · rw [hi] at ho; cases ho
    · rw [hi] at ho; cases ho
    · rw [hi, hit] at ho
      have hst : Ls[k][j].st = 0 := by simpa using ho
      have hv := h _ (List.getElem_mem hk) _ (List.getElem_mem hj) hst
      rw [hse, hse, hfg _ hst hv.1 hv.2]
      refine ⟨rfl, fun l hl x hx hx0 => ?_⟩
      rcases List.mem_or_eq_of_mem_set hl with hl | rfl
      · exact h l hl x hx hx0
      · rcases List.mem_or_eq_of_mem_set hx with hx | rfl
        · exact h _ (List.getElem_mem hk) x hx hx0
        · rw [← hfg _ hst hv.1 hv.2] at hx0
          exact absurd hx0 (hs _)
theorem Opn.keep {Ls : List (List FutX)} (h : Opn Ls) (hn : Ls.length ≤ 16) (id v : Int) : endL Ls id (endF 1 v 0) = endL Ls id (keepF v) ∧ Opn (endL Ls id (keepF v)) := by
  obtain ⟨h1, h2⟩ := h.ends hn id (keepF v) (endF 1 v 0) (fun x a b c => by unfold keepF endF; rw [c]) (fun x => by show (1 : Int) ≠ 0; decide)
  exact ⟨h1.symm, h2⟩
theorem Opn.brk {Ls : List (List FutX)} (h : Opn Ls) (hn : Ls.length ≤ 16) (id c : Int) : endL Ls id (endF 2 0 c) = endL Ls id (breakF c) ∧ Opn (endL Ls id (breakF c)) := by
  obtain ⟨h1, h2⟩ := h.ends hn id (breakF c) (endF 2 0 c) (fun x a b _ => by unfold breakF endF; rw [b]) (fun x => by show (2 : Int) ≠ 0; decide)
  exact ⟨h1.symm, h2⟩

end Go.Proofs.Ytboelofkbhgmfaa
