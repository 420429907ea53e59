/- A park beside its futures, by the list of those who wait. -/
import Derived.Test.YtboelofkbhgmfaaAl20
import Derived.Test.YtboelofkbhgmfaaKn13
namespace Go.Proofs.Ytboelofkbhgmfaa
set_option maxRecDepth 100000
open Go.RowKit

/-- A park in memory, in blocks of S: who waits, for what. -/
def PkV (w : World) (S : Nat → Prop) (a : Nat) (M : List (TK × Int)) : Prop := ∃ v L, PkK w S a v L ∧ L.map pairW = M
/-- A park and the futures, in blocks that the call made. -/
structure PfK (w wr : World) (a f : Nat) (qs : List Int) (Ls : List (List FutX)) (M : List (TK × Int)) : Prop where
  ex : ∃ S T, PkV wr S a M ∧ FuV wr T f qs Ls ∧ (∀ i, S i → ¬ T i) ∧ (∀ i, S i → w.heap.size ≤ i) ∧ (∀ i, T i → w.heap.size ≤ i)
  bl : Below w.heap.size w wr
section
variable {w wr w' : World} {S S' T T' : Nat → Prop} {a f : Nat} {qs : List Int} {Ls Ls' : List (List FutX)} {M M' : List (TK × Int)}
theorem PkV.lt (h : PkV w S a M) : ∀ i, S i → i < w.heap.size := by obtain ⟨v, L, h, _⟩ := h; exact h.lt
theorem PkV.keep (h : PkV w S a M) (hf : Frm T w w') (hd : ∀ i, S i → ¬ T i) : PkV w' S a M := by obtain ⟨v, L, h, e⟩ := h; exact ⟨v, L, h.keep hf hd, e⟩
theorem PkV.below (h : PkV w S a M) (hb : Below w.heap.size w w') : PkV w' S a M := by obtain ⟨v, L, h, e⟩ := h; exact ⟨v, L, h.below hb, e⟩
theorem PfK.below (h : PfK w wr a f qs Ls M) (hb : Below wr.heap.size wr w') : PfK w w' a f qs Ls M := by
  obtain ⟨S, T, h1, h2, h3, h4, h5⟩ := h.ex
  exact ⟨⟨S, T, h1.below hb, h2.below hb, h3, h4, h5⟩, h.bl.trans (hb.mono h.bl.size)⟩
theorem PfK.park (hb : Below w.heap.size w wr) (h2 : FuV wr T f qs Ls) (hlt : ∀ i, S i → i < wr.heap.size) (h3 : ∀ i, S i → ¬ T i) (h4 : ∀ i, S i → w.heap.size ≤ i) (h5 : ∀ i, T i → w.heap.size ≤ i) (h : PkV w' S' a M') (hs : Stp S S' wr w') : PfK w w' a f qs Ls M' :=
  ⟨⟨S', T, h, h2.keep hs.frm fun i hi e => h3 i e hi, hs.apart h2.lt h3, hs.low h4 hb.size, h5⟩, hb.trans (hs.below h4 hb.size)⟩
theorem PfK.fut (hb : Below w.heap.size w wr) (h1 : PkV wr S a M) (h3 : ∀ i, S i → ¬ T i) (h4 : ∀ i, S i → w.heap.size ≤ i) (h5 : ∀ i, T i → w.heap.size ≤ i) (h : FuV w' T' f qs Ls') (hs : Stp T T' wr w') : PfK w w' a f qs Ls' M :=
  ⟨⟨S, T', h1.keep hs.frm h3, h, fun i hi e => hs.apart h1.lt (fun i hi e => h3 i e hi) i e hi, h4, hs.low h5 hb.size⟩, hb.trans (hs.below h5 hb.size)⟩
def PfMk (w : World) (a f : Nat) (qs : List Int) (Ls : List (List FutX)) (M : List (TK × Int)) (id : Int) (b : Bool) (e : Ending) (w' : World) : Prop := e = .returned (.tuple #[.int .i32 id, .bool b]) ∧ PfK w w' a f qs Ls M
def PfB (w : World) (a f : Nat) (qs : List Int) (Ls : List (List FutX)) (M : List (TK × Int)) (b : Bool) (e : Ending) (w' : World) : Prop := e = .returned (.bool b) ∧ PfK w w' a f qs Ls M
def PfN (w : World) (a f : Nat) (qs : List Int) (Ls : List (List FutX)) (M : List (TK × Int)) (e : Ending) (w' : World) : Prop := e = .returned (.tuple #[]) ∧ PfK w w' a f qs Ls M
theorem pfMake_any (h : PfK w wr a f qs Ls M) (p lb : Int) (hp : -9223372036854775808 ≤ p ∧ p ≤ 9223372036854775807) :
    Calls Try.prog 30 #[.pointer (some ⟨f, 0, none⟩), .int .i64 p, .int .i64 lb] wr (PfMk w a f qs (mkL qs Ls p ⟨lb, 0, 0, 0⟩) M (mkId qs Ls p) (mkB qs Ls p)) := by
  obtain ⟨S, T, h1, h2, h3, h4, h5⟩ := h.ex
  refine (fuMake_any h2 p lb hp).mono ?_
  rintro e w' ⟨rfl, T', h6, h7⟩
  exact ⟨rfl, PfK.fut h.bl h1 h3 h4 h5 h6 h7⟩
theorem pfKeep_any (h : PfK w wr a f qs Ls M) (id v : Int) (hid : -2147483648 ≤ id ∧ id ≤ 2147483647) :
    Calls Try.prog 32 #[.pointer (some ⟨f, 0, none⟩), .int .i32 id, .int .i32 v] wr (PfB w a f qs (endL Ls id (keepF v)) M (openB Ls id)) := by
  obtain ⟨S, T, h1, h2, h3, h4, h5⟩ := h.ex
  refine (fuKeep_any h2 id v hid).mono ?_
  rintro e w' ⟨rfl, T', h6, h7⟩
  exact ⟨rfl, PfK.fut h.bl h1 h3 h4 h5 h6 h7⟩
theorem pfBreak_any (h : PfK w wr a f qs Ls M) (id v : Int) (hid : -2147483648 ≤ id ∧ id ≤ 2147483647) :
    Calls Try.prog 34 #[.pointer (some ⟨f, 0, none⟩), .int .i32 id, .int .i64 v] wr (PfB w a f qs (endL Ls id (breakF v)) M (openB Ls id)) := by
  obtain ⟨S, T, h1, h2, h3, h4, h5⟩ := h.ex
  refine (fuBreak_any h2 id v hid).mono ?_
  rintro e w' ⟨rfl, T', h6, h7⟩
  exact ⟨rfl, PfK.fut h.bl h1 h3 h4 h5 h6 h7⟩
theorem pfLen_any (h : PfK w wr a f qs Ls M) : Calls Try.prog 49 #[.pointer (some ⟨a, 0, none⟩)] wr fun e w' => e = .returned (.int .i64 M.length) ∧ wr = w' := by
  obtain ⟨S, T, ⟨v, L, h1, e1⟩, _⟩ := h.ex
  have : M.length = L.length := by rw [← e1]; simp
  rw [this]; exact pkLen_any h1
theorem pfAdd_any (h : PfK w wr a f qs Ls M) (hM : M.length ≤ 100000) (t : TK) (id : Int) (ht : t.st = []) :
    Calls Try.prog 44 #[.pointer (some ⟨a, 0, none⟩), taskV t nilV, .int .i32 id] wr (PfN w a f qs Ls (M ++ [(t, id)])) := by
  obtain ⟨S, T, ⟨v, L, h1, e1⟩, h2, h3, h4, h5⟩ := h.ex
  have hl : L.length ≤ 100000 := by rw [← e1] at hM; simpa using hM
  refine (pkAdd_any h1 hl t nilV id (by rw [ht]; exact I32V.nil _ _) (by rw [ht]; exact Nat.zero_le _)).mono ?_
  rintro e w' ⟨rfl, v', s', S', h6, h7⟩
  exact ⟨rfl, PfK.park h.bl h2 h1.lt h3 h4 h5 ⟨v', _, h6, by rw [List.map_append, e1]; rfl⟩ h7⟩
def wkP (Ls : List (List FutX)) (M : List (TK × Int)) : List TK := (M.filter fun x => setB Ls x.2).map Prod.fst
def syP (Ls : List (List FutX)) (M : List (TK × Int)) : List (TK × Int) := M.filter fun x => !setB Ls x.2
theorem wk_eq (Ls : List (List FutX)) (L : List WaitX) : (wokeL Ls L).map Prod.fst = wkP Ls (L.map pairW) := by
  unfold wokeL wkP
  rw [List.filter_map, List.map_map, List.map_map]; rfl
theorem sy_eq (Ls : List (List FutX)) (L : List WaitX) : (stayL Ls L).map pairW = syP Ls (L.map pairW) := by
  unfold stayL syP
  rw [List.filter_map]; rfl
/-- What Look answers: those woken, those starved; n were looked at. -/
def PfLk (w wr : World) (a f : Nat) (qs : List Int) (Ls : List (List FutX)) (M : List (TK × Int)) (F n : Nat) (e : Ending) (w' : World) : Prop :=
  ∃ v1 v2 L1 L2, e = .returned (.tuple #[v1, v2, .int .i64 ((F - n : Nat) : Int)]) ∧ OwnT w' wr.heap.size v1 L1 ∧ L1.map Prod.fst = wkP Ls (M.take n) ∧ OwnT w' wr.heap.size v2 L2 ∧ L2.map Prod.fst = (M.drop n).map Prod.fst ∧ PfK w w' a f qs Ls (syP Ls (M.take n))
theorem pfLook_any (h : PfK w wr a f qs Ls M) (hid : ∀ x ∈ M, -2147483648 ≤ x.2 ∧ x.2 ≤ 2147483647) (hM : M.length ≤ 100000) (fuel : Int) (F : Nat) (hF : (F : Int) = max fuel 0) (hF2 : F ≤ 9223372036854775807) :
    Calls Try.prog 45 #[.pointer (some ⟨a, 0, none⟩), .pointer (some ⟨f, 0, none⟩), .int .i64 fuel] wr (PfLk w wr a f qs Ls M F (min F M.length)) := by
  obtain ⟨S, T, ⟨v, L, h1, e1⟩, h2, h3, h4, h5⟩ := h.ex
  have hl : M.length = L.length := by rw [← e1]; simp
  rw [hl] at hM ⊢
  refine (pkLook_any h1 h2 (fun x hx => hid (pairW x) (by rw [← e1]; exact List.mem_map_of_mem hx)) hM fuel F hF hF2).mono ?_
  rintro e w' ⟨v1, v2, v3, S', rfl, o1, o2, h6, h7⟩
  refine ⟨v1, v2, _, _, rfl, o1, by rw [wk_eq, List.map_take, e1], o2, ?_, PfK.park h.bl h2 h1.lt h3 h4 h5 ⟨v3, _, h6, by rw [sy_eq, List.map_take, e1]⟩ h7⟩
  rw [← e1, ← List.map_drop, List.map_map, List.map_map]; rfl
/-- What All answers. -/
def PfAl (w wr : World) (a f : Nat) (qs : List Int) (Ls : List (List FutX)) (M : List (TK × Int)) (e : Ending) (w' : World) : Prop :=
  ∃ v Lk, e = .returned v ∧ AlP wr w' v Lk Lk ∧ Lk.map pairW = M ∧ PfK w w' a f qs Ls M
theorem AlP.self {w wr : World} {v : Value} {L Lk : List WaitX} (h : AlP w wr v L Lk) : AlP w wr v Lk Lk := ⟨h.own, rfl, h.st, h.bl⟩
theorem pfAll_any (h : PfK w wr a f qs Ls M) (hM : M.length ≤ 100000) : Calls Try.prog 48 #[.pointer (some ⟨a, 0, none⟩)] wr (PfAl w wr a f qs Ls M) := by
  obtain ⟨S, T, ⟨v, L, h1, e1⟩, _⟩ := h.ex
  have hl : L.length ≤ 100000 := by rw [← e1] at hM; simpa using hM
  refine (pkAll_any h1 hl).mono ?_
  rintro e w' ⟨v', Lk, rfl, hA⟩
  exact ⟨v', Lk, rfl, hA.self, by rw [hA.eq, e1], h.below hA.bl⟩
end
/-- The number of the task at a place of such a list. -/
theorem own_id {w : World} {base j : Nat} {A : Option Addr} {n c : Nat} {L : List SlotX} {x : SlotX} (h : OwnT w base (.slice A n c) L) (hx : L[j]? = some x) : ∃ g, A = some ⟨g, 0, none⟩ ∧ w.cell? ⟨g, j * 12, none⟩ = some (.int .i32 x.1.id) := by
  rcases h.2 with ⟨e1, e2⟩ | ⟨g, cap, cur, e1, _⟩
  · rw [List.length_eq_zero_iff.1 e2] at hx; simp at hx
  · injection e1 with e1
    refine ⟨g, e1, ?_⟩
    have h1 := rowE_get slotA_size hx (j := 0) (u := .int .i32 x.1.id) rfl
    have h2 := h.cells (g := g) (by rw [e1]; rfl) _ _ h1
    have ea : (⟨g, 0, none⟩ : Addr).add (j * 12 + 0) = ⟨g, j * 12, none⟩ := by unfold Addr.add; split <;> simp_all
    rwa [ea] at h2
theorem all_cell {w wr : World} {A : Option Addr} {n c j : Nat} {Lk : List WaitX} {x : WaitX} (h : AlP w wr (.slice A n c) Lk Lk) (hx : Lk[j]? = some x) : ∃ g, A = some ⟨g, 0, none⟩ ∧ wr.cell? ⟨g, j * 13, none⟩ = some (.int .i32 x.1.1.id) ∧ wr.cell? ⟨g, j * 13 + 12, none⟩ = some (.int .i32 x.2) := by
  rcases h.own.2 with ⟨e1, e2⟩ | ⟨g, cap, cur, e1, _⟩
  · rw [List.length_eq_zero_iff.1 e2] at hx; simp at hx
  · injection e1 with e1
    refine ⟨g, e1, ?_, ?_⟩
    · have h1 := rowE_get waitA_size hx (j := 0) (u := .int .i32 x.1.1.id) rfl
      have h2 := h.own.cells (g := g) (by rw [e1]; rfl) _ _ h1
      have ea : (⟨g, 0, none⟩ : Addr).add (j * 13 + 0) = ⟨g, j * 13, none⟩ := by unfold Addr.add; split <;> simp_all
      rwa [ea] at h2
    · have h1 := rowE_get waitA_size hx (j := 12) (u := .int .i32 x.2) rfl
      have h2 := h.own.cells (g := g) (by rw [e1]; rfl) _ _ h1
      have ea : (⟨g, 0, none⟩ : Addr).add (j * 13 + 12) = ⟨g, j * 13 + 12, none⟩ := by unfold Addr.add; split <;> simp_all
      rwa [ea] at h2

end Go.Proofs.Ytboelofkbhgmfaa
