/- Package ring, by the list of its tasks. -/
import Derived.Test.YtlmbjnegajiphaaRgl15
namespace Go.Proofs.Ytlmbjnegajiphaa
set_option maxRecDepth 100000
open Go.RowKit

/-- A ring in memory, in blocks of S, that holds the tasks L. -/
def RgV (w : World) (S : Nat → Prop) (a R : Nat) (L : List TK) : Prop := ∃ K sb top cnt C, (∀ i, S i ↔ RgS K a sb i) ∧ RgK w K a sb R top cnt C ∧ (ringL C R top cnt).map Prod.fst = L
section
variable {w w' : World} {S T : Nat → Prop} {a R : Nat} {L M : List TK} {t : TK}
theorem RgV.lt (h : RgV w S a R L) : ∀ i, S i → i < w.heap.size := by
  obtain ⟨K, sb, top, cnt, C, hS, hk, _⟩ := h
  exact fun i hi => hk.lts i ((hS i).1 hi)
theorem RgV.keep (h : RgV w S a R L) (hf : Frm T w w') (hd : ∀ i, S i → ¬ T i) : RgV w' S a R L := by
  obtain ⟨K, sb, top, cnt, C, hS, hk, hl⟩ := h
  exact ⟨K, sb, top, cnt, C, hS, hk.keep hf fun i hi => hd i ((hS i).2 hi), hl⟩
theorem RgV.below (h : RgV w S a R L) (hb : Below w.heap.size w w') : RgV w' S a R L := h.keep (T := fun _ => False) (Frm.of_below hb) fun _ _ => id
theorem RgV.len (h : RgV w S a R L) : L.length ≤ R ∧ 1 ≤ R ∧ R ≤ 64 := by
  obtain ⟨K, sb, top, cnt, C, hS, hk, hl⟩ := h
  have h1 := hk.ct; have h2 := hk.r1
  rw [← hl, List.length_map, ringL_length]; exact ⟨h1, h2⟩
def VNew (w : World) (R : Nat) (e : Ending) (w' : World) : Prop := ∃ a S, e = .returned (.pointer (some ⟨a, 0, none⟩)) ∧ RgV w' S a R [] ∧ Below w.heap.size w w' ∧ ∀ i, S i → w.heap.size ≤ i
theorem vNew_any (w : World) (x : Int) : Calls Try.prog 36 #[.int .i64 x] w (VNew w (roomZ x)) := by
  refine (rgNew_any w x).mono ?_
  rintro e w' ⟨a, sb, rfl, hk, hb, h1, h2⟩
  exact ⟨a, RgS (fun _ => False) a sb, rfl, ⟨_, sb, 0, 0, _, fun _ => Iff.rfl, hk, rfl⟩, hb, fun i hi => by rcases hi with hi | rfl | rfl; exact hi.elim; exact h1; exact h2⟩
theorem vLen_any (h : RgV w S a R L) : Calls Try.prog 48 #[.pointer (some ⟨a, 0, none⟩)] w fun e w' => e = .returned (.int .i64 L.length) ∧ w = w' := by
  obtain ⟨K, sb, top, cnt, C, hS, hk, hl⟩ := h
  have : L.length = cnt := by rw [← hl]; simp [ringL_length]
  rw [this]; exact rgLen_any hk
theorem vRoom_any (h : RgV w S a R L) : Calls Try.prog 38 #[.pointer (some ⟨a, 0, none⟩)] w fun e w' => e = .returned (.int .i64 R) ∧ w = w' := by
  obtain ⟨K, sb, top, cnt, C, hS, hk, hl⟩ := h
  exact rgRoom_any hk
def VPush (w : World) (S : Nat → Prop) (a R : Nat) (L : List TK) (t : TK) (e : Ending) (w' : World) : Prop :=
  ∃ S', e = .returned (.bool (decide (L.length < R))) ∧ RgV w' S' a R (if L.length < R then L ++ [t] else L) ∧ Stp S S' w w'
theorem vPush_any {s : Value} (h : RgV w S a R L) (hs : StkV w T (t, s)) (hT : ∀ i, T i → i < w.heap.size ∧ ¬ S i) (hn : t.st.length ≤ 100000) : Calls Try.prog 39 #[.pointer (some ⟨a, 0, none⟩), taskV t s] w (VPush w S a R L t) := by
  have hlt := h.lt
  obtain ⟨K, sb, top, cnt, C, hS, hk, hl⟩ := h
  have hc : L.length = cnt := by rw [← hl]; simp [ringL_length]
  refine (rgPush_any hk hs (fun i hi => ⟨(hT i hi).1, fun e => (hT i hi).2 ((hS i).2 (.inr (.inl e))), fun e => (hT i hi).2 ((hS i).2 (.inr (.inr e)))⟩) hn).mono ?_
  rintro e w' (⟨h1, rfl, hk', hb⟩ | ⟨h1, rfl, s', K', hk', hst⟩)
  · have hd : ¬ L.length < R := by omega
    refine ⟨S, by simp [hd], ?_, Stp.of_below hb hlt⟩
    rw [if_neg hd]; exact ⟨K, sb, top, cnt, C, hS, hk', hl⟩
  · have hd : L.length < R := by omega
    refine ⟨RgS K' a sb, by simp [hd], ?_, ⟨hst.frm.more fun i _ hi => (hS i).2 hi, fun i hi h2 => (hS i).2 (hst.old i hi h2), hst.lt⟩⟩
    rw [if_pos hd]
    refine ⟨K', sb, top, cnt + 1, _, fun _ => Iff.rfl, hk', ?_⟩
    rw [ring_push C _ h1, List.map_append, hl]; rfl
theorem vPush_nil (h : RgV w S a R L) (ht : t.st = []) : Calls Try.prog 39 #[.pointer (some ⟨a, 0, none⟩), taskV t nilV] w (VPush w S a R L t) :=
  vPush_any (T := fun _ => False) h (StkV.nil _ _ ht) (fun _ h => h.elim) (by rw [ht]; exact Nat.zero_le _)
/-- What Pop and Steal answer: t is gone, M is left. -/
def VGone (w : World) (S : Nat → Prop) (a R : Nat) (M : List TK) (t : TK) (e : Ending) (w' : World) : Prop :=
  ∃ s T, e = .returned (.tuple #[taskV t s, .bool true]) ∧ StkV w' T (t, s) ∧ (∀ i, T i → i < w'.heap.size) ∧ RgV w' S a R M ∧ Stp S S w w'
theorem RgRm.gone {K : Nat → Prop} {sb cnt i top' : Nat} {C : Nat → SlotX} {e : Ending} (hS : ∀ i, S i ↔ RgS K a sb i) (hlt : ∀ i, S i → i < w.heap.size) (h : RgRm w K a sb R cnt i top' C e w') (hi : (C i).1 = t) (hM : (ringL (upd C i zSlot) R top' (cnt - 1)).map Prod.fst = M) : VGone w S a R M t e w' := by
  obtain ⟨rfl, hk, hs, hf⟩ := h
  subst hi
  exact ⟨(C i).2, K, rfl, hs, hk.lt, ⟨K, sb, top', cnt - 1, _, hS, hk, hM⟩, ⟨hf.more fun j _ hj => (hS j).2 (.inr hj), fun _ _ h => h, fun j hj => Nat.lt_of_lt_of_le (hlt j hj) hf.size⟩⟩
theorem vPop_any (h : RgV w S a R (M ++ [t])) : Calls Try.prog 41 #[.pointer (some ⟨a, 0, none⟩)] w (VGone w S a R M t) := by
  have hlt := h.lt
  obtain ⟨K, sb, top, cnt, C, hS, hk, hl⟩ := h
  have hc : cnt = M.length + 1 := by have := congrArg List.length hl; simpa [ringL_length] using this
  obtain ⟨c', rfl⟩ : ∃ c', cnt = c' + 1 := ⟨_, hc⟩
  rw [ringL_snoc, List.map_append] at hl
  have hl2 := List.append_inj' hl (by simp)
  have hct := hk.ct
  refine (rgPop_any hk (by omega)).mono fun e w' h => ?_
  refine RgRm.gone hS hlt h (by simpa using hl2.2) ?_
  rw [show c' + 1 - 1 = c' from rfl, ring_pop C zSlot (by omega)]; exact hl2.1
theorem vSteal_any (h : RgV w S a R (t :: M)) : Calls Try.prog 43 #[.pointer (some ⟨a, 0, none⟩)] w (VGone w S a R M t) := by
  have hlt := h.lt
  obtain ⟨K, sb, top, cnt, C, hS, hk, hl⟩ := h
  have hc : cnt = M.length + 1 := by have := congrArg List.length hl; simpa [ringL_length] using this
  obtain ⟨c', rfl⟩ : ∃ c', cnt = c' + 1 := ⟨_, hc⟩
  rw [ringL_cons C R top c' hk.tp, List.map_cons] at hl
  injection hl with hl1 hl2
  have hct := hk.ct
  refine (rgSteal_any hk (by omega)).mono fun e w' h => ?_
  refine RgRm.gone hS hlt h hl1 ?_
  rw [show c' + 1 - 1 = c' from rfl, ring_steal C zSlot hk.tp (by omega)]; exact hl2
theorem RgV.none (h : RgV w S a R []) : ∃ sb top, RgB w a sb R top 0 := by
  obtain ⟨K, sb, top, cnt, C, hS, hk, hl⟩ := h
  obtain rfl : cnt = 0 := by have := congrArg List.length hl; simpa [ringL_length] using this
  exact ⟨sb, top, hk.blk⟩
theorem vPop_no (h : RgV w S a R []) : Calls Try.prog 41 #[.pointer (some ⟨a, 0, none⟩)] w (RgNo w) := by
  obtain ⟨sb, top, h1⟩ := h.none; exact rgPop_no h1
theorem vSteal_no (h : RgV w S a R []) : Calls Try.prog 43 #[.pointer (some ⟨a, 0, none⟩)] w (RgNo w) := by
  obtain ⟨sb, top, h1⟩ := h.none; exact rgSteal_no h1
/-- What Half answers: the first q tasks of L; the others are left. -/
def VHalf (w : World) (S : Nat → Prop) (a R : Nat) (L : List TK) (e : Ending) (w' : World) : Prop :=
  ∃ v L' T, e = .returned v ∧ OwnT w' w.heap.size v L' ∧ L'.map Prod.fst = L.take ((L.length + 1) / 2) ∧ (∀ x ∈ L', StkV w' T x ∧ x.1.st.length ≤ 100000) ∧ (∀ i, T i → i < w.heap.size) ∧ RgV w' S a R (L.drop ((L.length + 1) / 2)) ∧ Stp S S w w'
theorem vHalf_any (h : RgV w S a R L) : Calls Try.prog 46 #[.pointer (some ⟨a, 0, none⟩)] w (VHalf w S a R L) := by
  have hlt := h.lt
  obtain ⟨K, sb, top, cnt, C, hS, hk, hl⟩ := h
  have hc : L.length = cnt := by rw [← hl]; simp [ringL_length]
  refine (rgHalf_any hk).mono ?_
  rintro e w' ⟨v, C', rfl, ho, hk', hl', hst, hf⟩
  refine ⟨v, _, K, rfl, ho, by rw [List.map_take, hl, hc], hst, hk.lt, ⟨K, sb, _, _, C', hS, hk', by rw [hl', List.map_drop, hl, hc]⟩, ⟨hf.more fun j _ hj => (hS j).2 (.inr hj), fun _ _ h => h, fun j hj => Nat.lt_of_lt_of_le (hlt j hj) hf.size⟩⟩
/-- What All answers. -/
def VAll (w : World) (L : List TK) (e : Ending) (w' : World) : Prop :=
  ∃ v L' T, e = .returned v ∧ OwnT w' w.heap.size v L' ∧ L'.map Prod.fst = L ∧ (∀ x ∈ L', StkV w' T x ∧ x.1.st.length ≤ 100000) ∧ (∀ i, T i → w.heap.size ≤ i ∧ i < w'.heap.size) ∧ Below w.heap.size w w'
theorem vAll_any (h : RgV w S a R L) : Calls Try.prog 49 #[.pointer (some ⟨a, 0, none⟩)] w (VAll w L) := by
  obtain ⟨K, sb, top, cnt, C, hS, hk, hl⟩ := h
  refine (rgAll_any hk).mono ?_
  rintro e w' ⟨v, L', T, rfl, hA⟩
  exact ⟨v, L', T, rfl, hA.own, by rw [hA.eq, List.take_length, hl], hA.st, fun i hi => ⟨(hA.lt i hi).1, (hA.lt i hi).2.1⟩, hA.bl⟩
end

end Go.Proofs.Ytlmbjnegajiphaa
