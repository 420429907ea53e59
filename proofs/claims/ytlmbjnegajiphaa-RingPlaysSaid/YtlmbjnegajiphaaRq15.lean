/- A ring beside the reference's, by the lists of their tasks. -/
import Derived.Test.YtlmbjnegajiphaaRt15
namespace Go.Proofs.Ytlmbjnegajiphaa
set_option maxRecDepth 100000
open Go.RowKit

theorem StkV.mono {w : World} {S S' : Nat → Prop} {x : SlotX} (h : StkV w S x) (hs : ∀ i, S i → S' i) : StkV w S' x := by
  obtain ⟨A, c, e, hc, hl, hS⟩ := h; exact ⟨A, c, e, hc, hl, fun b off e => hs b (hS b off e)⟩
/-- What Pop and Steal answer, the stack still in the ring's blocks. -/
def VGoneS (w : World) (S : Nat → Prop) (a R : Nat) (M : List TK) (t : TK) (e : Ending) (w' : World) : Prop :=
  ∃ s, e = .returned (.tuple #[taskV t s, .bool true]) ∧ StkV w' S (t, s) ∧ RgV w' S a R M ∧ Stp S S w w'
theorem RgRm.goneS {w w' : World} {S K : Nat → Prop} {a R sb cnt i top' : Nat} {M : List TK} {t : TK} {C : Nat → SlotX} {e : Ending} (hS : ∀ i, S i ↔ RgS K a sb i) (hlt : ∀ i, S i → i < w.heap.size) (h : RgRm w K a sb R cnt i top' C e w') (hi : (C i).1 = t) (hM : (ringL (upd C i zSlot) R top' (cnt - 1)).map Prod.fst = M) : VGoneS w S a R M t e w' := by
  obtain ⟨rfl, hk, hs, hf⟩ := h
  subst hi
  exact ⟨(C i).2, rfl, hs.mono fun j hj => (hS j).2 (.inl hj), ⟨K, sb, top', cnt - 1, _, hS, hk, hM⟩, ⟨hf.more fun j _ hj => (hS j).2 (.inr hj), fun _ _ h => h, fun j hj => Nat.lt_of_lt_of_le (hlt j hj) hf.size⟩⟩
section
variable {w wr w' : World} {S S' T T' : Nat → Prop} {a b R : Nat} {M M' Mp Mr : List TK} {t : TK} {X : List (Nat × Obj)}
theorem vPopS_any (h : RgV w S a R (M ++ [t])) : Calls Try.prog 41 #[.pointer (some ⟨a, 0, none⟩)] w (VGoneS w S a R M t) := by
  have hlt := h.lt
  obtain ⟨K, sb, top, cnt, C, hS, hk, hl⟩ := h
  have hc : cnt = M.length + 1 := by have := congrArg List.length hl; simpa [ringL_length] using this
  obtain ⟨c', rfl⟩ : ∃ c', cnt = c' + 1 := ⟨_, hc⟩
  rw [ringL_snoc, List.map_append] at hl
  have hl2 := List.append_inj' hl (by simp)
  have hct := hk.ct
  refine (rgPop_any hk (by omega)).mono fun e w' h => ?_
  refine RgRm.goneS hS hlt h (by simpa using hl2.2) ?_
  rw [show c' + 1 - 1 = c' from rfl, ring_pop C zSlot (by omega)]; exact hl2.1
theorem vStealS_any (h : RgV w S a R (t :: M)) : Calls Try.prog 43 #[.pointer (some ⟨a, 0, none⟩)] w (VGoneS w S a R M t) := by
  have hlt := h.lt
  obtain ⟨K, sb, top, cnt, C, hS, hk, hl⟩ := h
  have hc : cnt = M.length + 1 := by have := congrArg List.length hl; simpa [ringL_length] using this
  obtain ⟨c', rfl⟩ : ∃ c', cnt = c' + 1 := ⟨_, hc⟩
  rw [ringL_cons C R top c' hk.tp, List.map_cons] at hl
  injection hl with hl1 hl2
  have hct := hk.ct
  refine (rgSteal_any hk (by omega)).mono fun e w' h => ?_
  refine RgRm.goneS hS hlt h hl1 ?_
  rw [show c' + 1 - 1 = c' from rfl, ring_steal C zSlot hk.tp (by omega)]; exact hl2
def VHalfS (w : World) (S : Nat → Prop) (a R : Nat) (L : List TK) (e : Ending) (w' : World) : Prop :=
  ∃ v L', e = .returned v ∧ OwnT w' w.heap.size v L' ∧ L'.map Prod.fst = L.take ((L.length + 1) / 2) ∧ (∀ x ∈ L', StkV w' S x) ∧ RgV w' S a R (L.drop ((L.length + 1) / 2)) ∧ Stp S S w w'
theorem vHalfS_any {L : List TK} (h : RgV w S a R L) : Calls Try.prog 46 #[.pointer (some ⟨a, 0, none⟩)] w (VHalfS w S a R L) := by
  have hlt := h.lt
  obtain ⟨K, sb, top, cnt, C, hS, hk, hl⟩ := h
  have hc : L.length = cnt := by rw [← hl]; simp [ringL_length]
  refine (rgHalf_any hk).mono ?_
  rintro e w' ⟨v, C', rfl, ho, hk', hl', hst, hf⟩
  exact ⟨v, _, rfl, ho, by rw [List.map_take, hl, hc], fun x hx => (hst x hx).1.mono fun j hj => (hS j).2 (.inl hj), ⟨K, sb, _, _, C', hS, hk', by rw [hl', List.map_drop, hl, hc]⟩, ⟨hf.more fun j _ hj => (hS j).2 (.inr hj), fun _ _ h => h, fun j hj => Nat.lt_of_lt_of_le (hlt j hj) hf.size⟩⟩
theorem RrV.bS (h : RrV w S b R M) : S b := by obtain ⟨A, c, L, h, _⟩ := h; exact h.bS
/-- The program's ring and the reference's, in blocks that the call made; X: boxes, which neither writes. -/
structure RqK (w wr : World) (a b R : Nat) (Mp Mr : List TK) (X : List (Nat × Obj)) : Prop where
  ex : ∃ S T, RgV wr S a R Mp ∧ RrV wr T b R Mr ∧ (∀ i, S i → ¬ T i) ∧ (∀ i, S i → w.heap.size ≤ i) ∧ (∀ i, T i → w.heap.size ≤ i) ∧ ∀ p ∈ X, wr.heap[p.1]? = some p.2 ∧ ¬ S p.1 ∧ p.1 ≠ b ∧ w.heap.size ≤ p.1
  bl : Below w.heap.size w wr
theorem RqK.one (hb : Below w.heap.size w wr) (h2 : RrV wr T b R Mr) (h3 : ∀ i, S i → ¬ T i) (h4 : ∀ i, S i → w.heap.size ≤ i) (h5 : ∀ i, T i → w.heap.size ≤ i) (hX : ∀ p ∈ X, wr.heap[p.1]? = some p.2 ∧ ¬ S p.1 ∧ p.1 ≠ b ∧ w.heap.size ≤ p.1) (h : RgV w' S' a R M') (hs : Stp S S' wr w') : RqK w w' a b R M' Mr X := by
  refine ⟨⟨S', T, h, h2.keep hs.frm fun i hi e => h3 i e hi, hs.apart h2.lt h3, hs.low h4 hb.size, h5, fun p hp => ?_⟩, hb.trans (hs.below h4 hb.size)⟩
  obtain ⟨e1, e2, e3, e4⟩ := hX p hp
  have hlt := (Array.getElem?_eq_some_iff.1 e1).1
  exact ⟨(hs.frm.block _ hlt e2).trans e1, fun e => e2 (hs.old _ hlt e), e3, e4⟩
theorem RqK.two (hb : Below w.heap.size w wr) (h1 : RgV wr S a R Mp) (h2 : RrV wr T b R Mr) (h3 : ∀ i, S i → ¬ T i) (h4 : ∀ i, S i → w.heap.size ≤ i) (h5 : ∀ i, T i → w.heap.size ≤ i) (hX : ∀ p ∈ X, wr.heap[p.1]? = some p.2 ∧ ¬ S p.1 ∧ p.1 ≠ b ∧ w.heap.size ≤ p.1) (h : RrV w' T' b R M') (hf : Frm (fun i => i = b) wr w') (hT : ∀ i, i < wr.heap.size → T' i → T i ∨ ∃ p ∈ X, i = p.1) : RqK w w' a b R Mp M' X := by
  have hTb := h2.bS
  have hSb : ∀ i, S i → ¬ i = b := fun i hi e => h3 i hi (e ▸ hTb)
  refine ⟨⟨S, T', h1.keep hf hSb, h, fun i hi ht => ?_, h4, fun i ht => ?_, fun p hp => ?_⟩, hb.trans (hf.below hb.size fun k _ e => e ▸ h5 b hTb)⟩
  · rcases hT i (h1.lt i hi) ht with e | ⟨p, hp, rfl⟩
    · exact h3 i hi e
    · exact (hX p hp).2.1 hi
  · by_cases hlt : i < wr.heap.size
    · rcases hT i hlt ht with e | ⟨p, hp, rfl⟩
      · exact h5 i e
      · exact (hX p hp).2.2.2
    · have := hb.size; omega
  · obtain ⟨e1, e2, e3, e4⟩ := hX p hp
    exact ⟨(hf.block _ (Array.getElem?_eq_some_iff.1 e1).1 e3).trans e1, e2, e3, e4⟩
theorem RqK.below (h : RqK w wr a b R Mp Mr X) (hb : Below wr.heap.size wr w') : RqK w w' a b R Mp Mr X := by
  obtain ⟨S, T, h1, h2, h3, h4, h5, h6⟩ := h.ex
  exact ⟨⟨S, T, h1.below hb, h2.keep (Frm.of_below (S := fun _ => False) hb) (fun _ _ => id), h3, h4, h5, fun p hp => ⟨(hb.block _ (Array.getElem?_eq_some_iff.1 (h6 p hp).1).1).trans (h6 p hp).1, (h6 p hp).2⟩⟩, h.bl.trans (hb.mono h.bl.size)⟩
theorem RqK.put (h : RqK w wr a b R Mp Mr X) {k : Nat} {o : Obj} (hb : Below wr.heap.size wr w') (hk : wr.heap.size ≤ k) (ho : w'.heap[k]? = some o) : RqK w w' a b R Mp Mr ((k, o) :: X) := by
  obtain ⟨S, T, h1, h2, h3, h4, h5, h6⟩ := (h.below hb).ex
  obtain ⟨S0, T0, k1, k2, k3, k4, k5, k6⟩ := h.ex
  have hTb := k2.lt b k2.bS
  refine ⟨⟨S0, T0, k1.below hb, k2.keep (Frm.of_below (S := fun _ => False) hb) (fun _ _ => id), k3, k4, k5, fun p hp => ?_⟩, h.bl.trans (hb.mono h.bl.size)⟩
  rcases List.mem_cons.1 hp with rfl | hp
  · exact ⟨ho, fun e => by have := k1.lt _ e; simp only at this; omega, by simp only; omega, by have := h.bl.size; simp only; omega⟩
  · exact ⟨(hb.block _ (Array.getElem?_eq_some_iff.1 (k6 p hp).1).1).trans (k6 p hp).1, (k6 p hp).2⟩
theorem RqK.sub (h : RqK w wr a b R Mp Mr X) : RqK w wr a b R Mp Mr [] := by
  obtain ⟨S, T, h1, h2, h3, h4, h5, _⟩ := h.ex
  exact ⟨⟨S, T, h1, h2, h3, h4, h5, fun p hp => by cases hp⟩, h.bl⟩
theorem RqK.box (h : RqK w wr a b R Mp Mr X) {p : Nat × Obj} (hp : p ∈ X) : wr.heap[p.1]? = some p.2 := by
  obtain ⟨S, T, _, _, _, _, _, h6⟩ := h.ex
  exact (h6 p hp).1
theorem RqK.len (h : RqK w wr a b R Mp Mr X) : Mp.length ≤ R ∧ 1 ≤ R ∧ R ≤ 64 := by
  obtain ⟨S, T, h1, _⟩ := h.ex
  exact h1.len
/-- The reference's ring, as the law reads it. -/
theorem RqK.list (h : RqK w wr a b R Mp Mr X) : b < wr.heap.size ∧ wr.cell? ⟨b, 0, none⟩ = some (.int .i64 R) ∧ ∃ A c L, wr.cell? ⟨b, 1, none⟩ = some (.slice A L.length c) ∧ TasksV wr (.slice A L.length c) L ∧ L.map Prod.fst = Mr := by
  obtain ⟨S, T, _, ⟨A, c, L, h2, e⟩, _⟩ := h.ex
  refine ⟨h2.lt b h2.bS, cell_blk h2.blk 0, A, c, L, cell_blk h2.blk 1, ⟨A, c, rfl, fun j hj => ?_⟩, e⟩
  obtain ⟨h3, h4⟩ := h2.st L[j] (List.getElem_mem hj)
  rcases h2.at' with ⟨_, _, e2⟩ | ⟨g, off, e2, _, _, hr⟩
  · rw [e2] at hj; simp at hj
  · exact ⟨⟨g, off, e2, range_part hr hj⟩, h3.v, h4⟩
theorem rqLen (h : RqK w wr a b R Mp Mr X) : Calls Try.prog 48 #[.pointer (some ⟨a, 0, none⟩)] wr fun e w' => e = .returned (.int .i64 Mp.length) ∧ wr = w' := by
  obtain ⟨S, T, h1, _⟩ := h.ex; exact vLen_any h1
theorem rqRoom (h : RqK w wr a b R Mp Mr X) : Calls Try.prog 38 #[.pointer (some ⟨a, 0, none⟩)] wr fun e w' => e = .returned (.int .i64 R) ∧ wr = w' := by
  obtain ⟨S, T, h1, _⟩ := h.ex; exact vRoom_any h1
def pushM (R : Nat) (M : List TK) (t : TK) : List TK := if M.length < R then M ++ [t] else M
def RqB (w : World) (a b R : Nat) (Mp Mr : List TK) (X : List (Nat × Obj)) (y : Bool) (e : Ending) (w' : World) : Prop := e = .returned (.bool y) ∧ RqK w w' a b R Mp Mr X
theorem one_stk {bs : Nat} {v : Int} (h : wr.heap[bs]? = some (.cells #[.int .i32 v] 21 (0, 0))) (ht : t.st = [v]) : StkV wr (fun i => i = bs) (t, .slice (some ⟨bs, 0, none⟩) 1 1) := by
  refine ⟨some ⟨bs, 0, none⟩, 1, by rw [ht]; rfl, by rw [ht]; exact Nat.le_refl _, fun _ => ⟨bs, 0, rfl, (Array.getElem?_eq_some_iff.1 h).1, fun j u hu => ?_⟩, fun b2 off e => by injection e with e; injection e with e; exact e.symm⟩
  rw [cell_blk h]
  have hu : (i32s t.st)[j]? = some u := hu
  rw [ht] at hu
  rw [Nat.zero_add]
  rcases j with _ | j
  · simpa [i32s] using hu
  · simp [i32s] at hu
theorem rqPush {bs : Nat} {v : Int} (h : RqK w wr a b R Mp Mr X) (hx : (bs, Obj.cells #[.int .i32 v] 21 (0, 0)) ∈ X) (ht : t.st = [v]) : Calls Try.prog 39 #[.pointer (some ⟨a, 0, none⟩), taskV t (.slice (some ⟨bs, 0, none⟩) 1 1)] wr (RqB w a b R (pushM R Mp t) Mr X (decide (Mp.length < R))) := by
  obtain ⟨S, T, h1, h2, h3, h4, h5, hX⟩ := h.ex
  obtain ⟨e1, e2, e3, e4⟩ := hX _ hx
  refine (vPush_any h1 (one_stk e1 ht) (fun i hi => by subst hi; exact ⟨(Array.getElem?_eq_some_iff.1 e1).1, e2⟩) (by rw [ht]; simp)).mono ?_
  rintro e w' ⟨S', rfl, h6, h7⟩
  exact ⟨rfl, RqK.one h.bl h2 h3 h4 h5 hX h6 h7⟩
theorem rqPushR {bs : Nat} {v : Int} (h : RqK w wr a b R Mp Mr X) (hM : Mr.length ≤ 100) (hx : (bs, Obj.cells #[.int .i32 v] 21 (0, 0)) ∈ X) (ht : t.st = [v]) : Calls Try.prog 40 #[.pointer (some ⟨b, 0, none⟩), taskV t (.slice (some ⟨bs, 0, none⟩) 1 1)] wr (RqB w a b R Mp (pushM R Mr t) X (decide (Mr.length < R))) := by
  obtain ⟨S, T, h1, h2, h3, h4, h5, hX⟩ := h.ex
  obtain ⟨e1, e2, e3, e4⟩ := hX _ hx
  refine (rrPush_any h2 hM (one_stk e1 ht) (fun i hi => by subst hi; exact ⟨(Array.getElem?_eq_some_iff.1 e1).1, e3⟩) (by rw [ht]; simp)).mono ?_
  rintro e w' ⟨T', rfl, h6, h7, h8⟩
  refine ⟨rfl, RqK.two h.bl h1 h2 h3 h4 h5 hX h6 h8 fun i hi hT => ?_⟩
  rcases h7.old i hi hT with e | e
  · exact .inl e
  · exact .inr ⟨_, hx, e⟩
/-- A task is gone from the program's ring; its stack stays what it is while only the reference's struct is written. -/
def RqG (w : World) (a b R : Nat) (Mp Mr : List TK) (X : List (Nat × Obj)) (t : TK) (e : Ending) (w' : World) : Prop :=
  ∃ A n c, e = .returned (.tuple #[taskV t (.slice A n c), .bool true]) ∧ RqK w w' a b R Mp Mr X ∧ ∀ w2, Frm (fun i => i = b) w' w2 → I32V w2 w2.heap.size (.slice A n c) t.st
theorem rq_gone {e : Ending} (hb : Below w.heap.size w wr) (h2 : RrV wr T b R Mr) (h3 : ∀ i, S i → ¬ T i) (h4 : ∀ i, S i → w.heap.size ≤ i) (h5 : ∀ i, T i → w.heap.size ≤ i) (hX : ∀ p ∈ X, wr.heap[p.1]? = some p.2 ∧ ¬ S p.1 ∧ p.1 ≠ b ∧ w.heap.size ≤ p.1) (hg : VGoneS wr S a R M t e w') : RqG w a b R M Mr X t e w' := by
  obtain ⟨s, rfl, hs, h6, h7⟩ := hg
  obtain ⟨A, c, e2, _⟩ := id hs
  have e2 : s = .slice A t.st.length c := e2
  subst e2
  refine ⟨A, _, c, rfl, RqK.one hb h2 h3 h4 h5 hX h6 h7, fun w2 hf => ?_⟩
  exact (hs.keep (S' := S) hf (fun i hi e => h3 i hi (e ▸ h2.bS)) (fun _ _ h => h) h6.lt).v
theorem rqPop (h : RqK w wr a b R (M ++ [t]) Mr X) : Calls Try.prog 41 #[.pointer (some ⟨a, 0, none⟩)] wr (RqG w a b R M Mr X t) := by
  obtain ⟨S, T, h1, h2, h3, h4, h5, hX⟩ := h.ex
  exact (vPopS_any h1).mono fun e w' hg => rq_gone h.bl h2 h3 h4 h5 hX hg
theorem rqSteal (h : RqK w wr a b R (t :: M) Mr X) : Calls Try.prog 43 #[.pointer (some ⟨a, 0, none⟩)] wr (RqG w a b R M Mr X t) := by
  obtain ⟨S, T, h1, h2, h3, h4, h5, hX⟩ := h.ex
  exact (vStealS_any h1).mono fun e w' hg => rq_gone h.bl h2 h3 h4 h5 hX hg
/-- A task is gone from the reference's ring. -/
def RqH (w wr : World) (a b R : Nat) (Mp Mr : List TK) (X : List (Nat × Obj)) (t : TK) (e : Ending) (w' : World) : Prop :=
  ∃ A n c, e = .returned (.tuple #[taskV t (.slice A n c), .bool true]) ∧ I32V w' w'.heap.size (.slice A n c) t.st ∧ t.st.length ≤ 1000 ∧ RqK w w' a b R Mp Mr X ∧ Frm (fun i => i = b) wr w'
theorem rq_goneR {e : Ending} (hb : Below w.heap.size w wr) (h1 : RgV wr S a R Mp) (h2 : RrV wr T b R Mr) (h3 : ∀ i, S i → ¬ T i) (h4 : ∀ i, S i → w.heap.size ≤ i) (h5 : ∀ i, T i → w.heap.size ≤ i) (hX : ∀ p ∈ X, wr.heap[p.1]? = some p.2 ∧ ¬ S p.1 ∧ p.1 ≠ b ∧ w.heap.size ≤ p.1) (hg : RrGone wr T b R M t e w') : RqH w wr a b R Mp M X t e w' := by
  obtain ⟨s, rfl, ⟨hs, hn⟩, h6, h7, h8⟩ := hg
  obtain ⟨A, c, e2, _⟩ := id hs
  subst e2
  exact ⟨A, _, c, rfl, hs, hn, RqK.two hb h1 h2 h3 h4 h5 hX h6 h8 fun i hi e => .inl (h7.old i hi e), h8⟩
theorem rqPopR (h : RqK w wr a b R Mp (M ++ [t]) X) (hM : M.length ≤ 100) : Calls Try.prog 42 #[.pointer (some ⟨b, 0, none⟩)] wr (RqH w wr a b R Mp M X t) := by
  obtain ⟨S, T, h1, h2, h3, h4, h5, hX⟩ := h.ex
  exact (rrPop_any h2 hM).mono fun e w' hg => rq_goneR h.bl h1 h2 h3 h4 h5 hX hg
theorem rqStealR (h : RqK w wr a b R Mp (t :: M) X) (hM : M.length ≤ 100) : Calls Try.prog 44 #[.pointer (some ⟨b, 0, none⟩)] wr (RqH w wr a b R Mp M X t) := by
  obtain ⟨S, T, h1, h2, h3, h4, h5, hX⟩ := h.ex
  exact (rrSteal_any h2 hM).mono fun e w' hg => rq_goneR h.bl h1 h2 h3 h4 h5 hX hg
theorem rqPop_no (h : RqK w wr a b R [] Mr X) : Calls Try.prog 41 #[.pointer (some ⟨a, 0, none⟩)] wr (RgNo wr) := by
  obtain ⟨S, T, h1, _⟩ := h.ex; exact vPop_no h1
theorem rqSteal_no (h : RqK w wr a b R [] Mr X) : Calls Try.prog 43 #[.pointer (some ⟨a, 0, none⟩)] wr (RgNo wr) := by
  obtain ⟨S, T, h1, _⟩ := h.ex; exact vSteal_no h1
theorem rqPopR_no (h : RqK w wr a b R Mp [] X) : Calls Try.prog 42 #[.pointer (some ⟨b, 0, none⟩)] wr (RrNo wr) := by
  obtain ⟨S, T, _, h1, _⟩ := h.ex; exact rrPop_no h1
theorem rqStealR_no (h : RqK w wr a b R Mp [] X) : Calls Try.prog 44 #[.pointer (some ⟨b, 0, none⟩)] wr (RrNo wr) := by
  obtain ⟨S, T, _, h1, _⟩ := h.ex; exact rrSteal_no h1
/-- Half of the program's ring. -/
def RqHf (w wr : World) (a b R : Nat) (M Mp Mr : List TK) (X : List (Nat × Obj)) (e : Ending) (w' : World) : Prop :=
  ∃ v L', e = .returned v ∧ OwnT w' wr.heap.size v L' ∧ L'.map Prod.fst = M ∧ RqK w w' a b R Mp Mr X ∧ ∀ w2, Frm (fun i => i = b) w' w2 → ∀ x ∈ L', I32V w2 w2.heap.size x.2 x.1.st
theorem rqHalf (h : RqK w wr a b R Mp Mr X) : Calls Try.prog 46 #[.pointer (some ⟨a, 0, none⟩)] wr (RqHf w wr a b R (Mp.take ((Mp.length + 1) / 2)) (Mp.drop ((Mp.length + 1) / 2)) Mr X) := by
  obtain ⟨S, T, h1, h2, h3, h4, h5, hX⟩ := h.ex
  refine (vHalfS_any h1).mono ?_
  rintro e w' ⟨v, L', rfl, ho, hm, hs, h6, h7⟩
  exact ⟨v, L', rfl, ho, hm, RqK.one h.bl h2 h3 h4 h5 hX h6 h7, fun w2 hf x hx => ((hs x hx).keep (S' := S) hf (fun i hi e => h3 i hi (e ▸ h2.bS)) (fun _ _ h => h) h6.lt).v⟩
/-- Half of the reference's ring. -/
def RqHr (w wr : World) (a b R : Nat) (M Mp Mr : List TK) (X : List (Nat × Obj)) (e : Ending) (w' : World) : Prop :=
  ∃ v L', e = .returned v ∧ TasksV w' v L' ∧ L'.map Prod.fst = M ∧ RqK w w' a b R Mp Mr X ∧ Frm (fun i => i = b) wr w'
theorem rqHalfR (h : RqK w wr a b R Mp Mr X) (hM : Mr.length ≤ 100) : Calls Try.prog 47 #[.pointer (some ⟨b, 0, none⟩)] wr (RqHr w wr a b R (Mr.take ((Mr.length + 1) / 2)) Mp (Mr.drop ((Mr.length + 1) / 2)) X) := by
  obtain ⟨S, T, h1, h2, h3, h4, h5, hX⟩ := h.ex
  refine (rrHalf_any h2 hM).mono ?_
  rintro e w' ⟨v, L', rfl, ho, hm, hs, h6, h7, h8⟩
  exact ⟨v, L', rfl, TasksV.of_own ho hs, hm, RqK.two h.bl h1 h2 h3 h4 h5 hX h6 h8 fun i hi e => .inl (h7.old i hi e), h8⟩
/-- All of the program's tasks. -/
def RqAl (wr : World) (Mp : List TK) (e : Ending) (w' : World) : Prop := ∃ A c L', e = .returned (.slice A Mp.length c) ∧ TasksV w' (.slice A Mp.length c) L' ∧ L'.map Prod.fst = Mp ∧ Below wr.heap.size wr w'
theorem rqAll (h : RqK w wr a b R Mp Mr X) (hM : ∀ t ∈ Mp, t.st.length ≤ 1000) : Calls Try.prog 49 #[.pointer (some ⟨a, 0, none⟩)] wr (RqAl wr Mp) := by
  obtain ⟨S, T, h1, _⟩ := h.ex
  refine (vAll_any h1).mono ?_
  rintro e w' ⟨v, L', T', rfl, ho, hm, hs, _, hb⟩
  have ht := TasksV.of_own ho fun x hx => ⟨(hs x hx).1.v, hM x.1 (by rw [← hm]; exact List.mem_map_of_mem hx)⟩
  have hl : L'.length = Mp.length := by have := congrArg List.length hm; simpa using this
  obtain ⟨A, c, e, _⟩ := id ht
  rw [hl] at e
  subst e
  exact ⟨A, c, L', rfl, ht, hm, hb⟩
/-- What Pop and Steal answer, whether there is a task or not. -/
def RqT (w : World) (a b R : Nat) (Mp Mr : List TK) (X : List (Nat × Obj)) (t : TK) (y : Bool) (e : Ending) (w' : World) : Prop :=
  ∃ A n c, e = .returned (.tuple #[taskV t (.slice A n c), .bool y]) ∧ RqK w w' a b R Mp Mr X ∧ ∀ w2, Frm (fun i => i = b) w' w2 → I32V w2 w2.heap.size (.slice A n c) t.st
def RqTR (w wr : World) (a b R : Nat) (Mp Mr : List TK) (X : List (Nat × Obj)) (t : TK) (y : Bool) (e : Ending) (w' : World) : Prop :=
  ∃ A n c, e = .returned (.tuple #[taskV t (.slice A n c), .bool y]) ∧ I32V w' w'.heap.size (.slice A n c) t.st ∧ RqK w w' a b R Mp Mr X ∧ Frm (fun i => i = b) wr w'
def lastT (M : List TK) : TK := M.getLast?.getD zT
def firstT (M : List TK) : TK := M.head?.getD zT
theorem no_rq {e : Ending} (h : RqK w wr a b R Mp Mr X) (hg : RgNo wr e w') : RqT w a b R Mp Mr X zT false e w' := by
  obtain ⟨rfl, hb⟩ := hg
  exact ⟨none, 0, 0, rfl, h.below hb, fun w2 _ => I32V.nil _ _⟩
theorem no_rqR {e : Ending} (h : RqK w wr a b R Mp Mr X) (hg : RrNo wr e w') : RqTR w wr a b R Mp Mr X zT false e w' := by
  obtain ⟨rfl, hb⟩ := hg
  exact ⟨none, 0, 0, rfl, I32V.nil _ _, h.below hb, Frm.of_below hb⟩
theorem rqPopT (h : RqK w wr a b R M Mr X) : Calls Try.prog 41 #[.pointer (some ⟨a, 0, none⟩)] wr (RqT w a b R M.dropLast Mr X (lastT M) (!M.isEmpty)) := by
  rcases List.eq_nil_or_concat M with rfl | ⟨M', t, rfl⟩
  · exact (rqPop_no h).mono fun e w' hg => no_rq h hg
  · rw [List.concat_eq_append] at h ⊢
    have e1 : lastT (M' ++ [t]) = t := by simp [lastT]
    have e2 : (M' ++ [t]).dropLast = M' := by simp
    have e3 : (!(M' ++ [t]).isEmpty) = true := by simp
    rw [e1, e2, e3]; exact rqPop h
theorem rqStealT (h : RqK w wr a b R M Mr X) : Calls Try.prog 43 #[.pointer (some ⟨a, 0, none⟩)] wr (RqT w a b R M.tail Mr X (firstT M) (!M.isEmpty)) := by
  cases M with
  | nil => exact (rqSteal_no h).mono fun e w' hg => no_rq h hg
  | cons t M' => exact rqSteal h
theorem rqh_t {e : Ending} (h : RqH w wr a b R Mp M X t e w') : RqTR w wr a b R Mp M X t true e w' := by
  obtain ⟨A, n, c, e, h1, _, h2, h3⟩ := h; exact ⟨A, n, c, e, h1, h2, h3⟩
theorem rqPopTR (h : RqK w wr a b R Mp M X) (hM : M.length ≤ 100) : Calls Try.prog 42 #[.pointer (some ⟨b, 0, none⟩)] wr (RqTR w wr a b R Mp M.dropLast X (lastT M) (!M.isEmpty)) := by
  rcases List.eq_nil_or_concat M with rfl | ⟨M', t, rfl⟩
  · exact (rqPopR_no h).mono fun e w' hg => no_rqR h hg
  · rw [List.concat_eq_append] at h hM ⊢
    have e1 : lastT (M' ++ [t]) = t := by simp [lastT]
    have e2 : (M' ++ [t]).dropLast = M' := by simp
    have e3 : (!(M' ++ [t]).isEmpty) = true := by simp
    rw [e1, e2, e3]; exact (rqPopR h (by rw [List.length_append] at hM; omega)).mono fun e w' hg => rqh_t hg
theorem rqStealTR (h : RqK w wr a b R Mp M X) (hM : M.length ≤ 100) : Calls Try.prog 44 #[.pointer (some ⟨b, 0, none⟩)] wr (RqTR w wr a b R Mp M.tail X (firstT M) (!M.isEmpty)) := by
  cases M with
  | nil => exact (rqStealR_no h).mono fun e w' hg => no_rqR h hg
  | cons t M' => exact (rqStealR h (by rw [List.length_cons] at hM; omega)).mono fun e w' hg => rqh_t hg
/-- All tasks have short stacks. -/
def MR (M : List TK) : Prop := ∀ t ∈ M, t.st.length ≤ 1000
theorem MR.push (h : MR M) (ht : t.st.length ≤ 1000) : MR (pushM R M t) := by
  unfold pushM
  split
  · intro x hx
    rcases List.mem_append.1 hx with hx | hx
    · exact h x hx
    · rw [List.mem_singleton.1 hx]; exact ht
  · exact h
theorem MR.sub (h : MR M) (hs : ∀ x ∈ M', x ∈ M) : MR M' := fun x hx => h x (hs x hx)
theorem MR.last (h : MR M) : (lastT M).st.length ≤ 1000 := by
  unfold lastT
  cases hl : M.getLast? with
  | none => exact Nat.zero_le _
  | some t => exact h t (List.mem_of_getLast? hl)
theorem MR.first (h : MR M) : (firstT M).st.length ≤ 1000 := by
  unfold firstT
  cases hl : M.head? with
  | none => exact Nat.zero_le _
  | some t => exact h t (List.mem_of_head? hl)
end

end Go.Proofs.Ytlmbjnegajiphaa
