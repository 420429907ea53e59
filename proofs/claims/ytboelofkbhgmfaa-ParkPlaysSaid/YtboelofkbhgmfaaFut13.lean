/- Package future, over its store: New, Make, Count, Get. (After package arena's text.) -/
import Derived.Test.YtboelofkbhgmfaaQugF12
namespace Go.Proofs.Ytboelofkbhgmfaa
set_option maxRecDepth 100000
open Go.RowKit

theorem StoK.congr {X : Type} {enc : X → Array Value} {w : World} {S T : Nat → Prop} {t e er sz gs qc tb : Nat} {qA : Option Addr} {vs : List Value} {qs : List Int} {Ls : List (List X)}
    (h : StoK enc w S t e er sz gs qA qc tb vs qs Ls) (hs : ∀ i, S i ↔ T i) : StoK enc w T t e er sz gs qA qc tb vs qs Ls := by
  rw [show T = S from funext fun i => propext (hs i).symm]; exact h
/-- The arena: block a, which points to its store; S: all its blocks. -/
def FuV (w : World) (S : Nat → Prop) (a : Nat) (qs : List Int) (Ls : List (List FutX)) : Prop :=
  Bnd qs Ls ∧ S a ∧ ∃ gs qA qc tb vs, w.heap[a]? = some (.cells #[.pointer (some ⟨gs, 0, none⟩)] 121 (0, 0)) ∧ StoF w (fun i => S i ∧ i ≠ a) gs qA qc tb vs qs Ls
section
variable {w w' : World} {S T : Nat → Prop} {a : Nat} {qs : List Int} {Ls : List (List FutX)}
theorem FuV.lt (h : FuV w S a qs Ls) : ∀ i, S i → i < w.heap.size := by
  obtain ⟨_, _, gs, qA, qc, tb, vs, hb, hs⟩ := h
  intro i hi
  by_cases e : i = a
  · subst e; exact (Array.getElem?_eq_some_iff.1 hb).1
  · exact hs.lt i ⟨hi, e⟩
theorem FuV.keep (h : FuV w S a qs Ls) (hf : Frm T w w') (hd : ∀ i, S i → ¬ T i) : FuV w' S a qs Ls := by
  have hl := h.lt
  obtain ⟨hB, ha, gs, qA, qc, tb, vs, hb, hs⟩ := h
  exact ⟨hB, ha, gs, qA, qc, tb, vs, (hf.block a (hl a ha) (hd a ha)).trans hb, hs.keep hf fun i hi => hd i hi.1⟩
theorem FuV.below (h : FuV w S a qs Ls) (hb : Below w.heap.size w w') : FuV w' S a qs Ls := h.keep (T := fun _ => False) (Frm.of_below hb) fun _ _ => id
theorem FuV.next {S' : Nat → Prop} {Ls' : List (List FutX)} (h : FuV w S a qs Ls) {gs qc tb : Nat} {qA : Option Addr} {vs' : List Value} (hb : w.heap[a]? = some (.cells #[.pointer (some ⟨gs, 0, none⟩)] 121 (0, 0))) (hB : Bnd qs Ls')
    (hs : StoF w' S' gs qA qc tb vs' qs Ls') (hst : Stp (fun i => S i ∧ i ≠ a) S' w w') : ∃ S'', FuV w' S'' a qs Ls' ∧ Stp S S'' w w' := by
  have hl := h.lt
  have ha := h.2.1
  have hna : ¬ S' a := fun e => (hst.old a (hl a ha) e).2 rfl
  refine ⟨fun i => S' i ∨ i = a, ⟨hB, .inr rfl, gs, qA, qc, tb, vs', ?_, hs.congr fun i => ⟨fun hi => ⟨.inl hi, fun e => hna (e ▸ hi)⟩, fun hi => hi.1.resolve_right hi.2⟩⟩, ?_, ?_, ?_⟩
  · exact (hst.frm.block a (hl a ha) (fun e => e.2 rfl)).trans hb
  · exact hst.frm.more fun i _ hi => hi.1
  · rintro i hi (h1 | rfl)
    · exact (hst.old i hi h1).1
    · exact ha
  · rintro i (h1 | rfl)
    · exact hst.lt i h1
    · exact Nat.lt_of_lt_of_le (hl _ ha) hst.frm.size
end
theorem own_frozen {w : World} {base e sz n c g m : Nat} {xs : List Value} (h : w.ownsRow base e sz (.slice (some ⟨g, 0, none⟩) n c) m xs) (i : Nat) : w.frozen? ⟨g, i, none⟩ = false := by
  rcases h.2 with ⟨e, _⟩ | ⟨g', cap, cur, e1, _, hg, _⟩
  · cases e
  · injection e1 with e1
    injection e1 with e1
    injection e1 with e1 _
    subst e1
    exact frozen_blk hg i
/-- A new arena. -/
def FuM (w : World) (l : List Int) (e : Ending) (w' : World) : Prop := ∃ a, e = .returned (.pointer (some ⟨a, 0, none⟩)) ∧ FuV w' (fun b => w.heap.size ≤ b ∧ b < w'.heap.size) a (quotasZ l) (List.replicate (min l.length 16) []) ∧ Below w.heap.size w w'
theorem fuNew_any (v : Value) (l : List Int) (w : World) (h : NumV w w.heap.size v l) (hn : l.length ≤ 1000) : Calls Try.prog 28 #[v] w (FuM w l) := by
  have HN := Lib.hid (newStoF_any v l w h hn)
  clear h hn
  go_enter Try.func28, Try.ntmps28
  go_wp2_with fail
  refine HN.out.mono ?_
  rintro e w1 ⟨gs, qA, qc, tb, vs, rfl, hs, hb⟩
  have HS := Lib.hid hs; have HB := Lib.hid hb
  clear hs hb
  go_wp2_with fail
  go_ret
  have hlt := HS.out.lt
  refine ⟨w1.heap.size, rfl, ⟨Bnd.new l, ⟨HB.out.size, by simp⟩, gs, qA, qc, tb, vs, heap_alloc_new _ _, ?_⟩, HB.out.alloc HB.out.size _⟩
  refine (HS.out.below (below_alloc w1 _)).congr fun i => ⟨fun hi => ?_, fun hi => ?_⟩
  · have := hi.2
    exact ⟨⟨hi.1, by simp; omega⟩, by omega⟩
  · obtain ⟨⟨h1, h2⟩, h3⟩ := hi
    rw [World.size_alloc] at h2
    exact ⟨h1, by omega⟩
def FuMk (w : World) (S : Nat → Prop) (a : Nat) (qs : List Int) (Ls : List (List FutX)) (p : Int) (x : FutX) (e : Ending) (w' : World) : Prop :=
  e = .returned (.tuple #[.int .i32 (mkId qs Ls p), .bool (mkB qs Ls p)]) ∧ ∃ S', FuV w' S' a qs (mkL qs Ls p x) ∧ Stp S S' w w'
section
variable {w : World} {S : Nat → Prop} {a : Nat} {qs : List Int} {Ls : List (List FutX)}
set_option maxHeartbeats 1000000 in
theorem fuMake_any (h : FuV w S a qs Ls) (p lb : Int) (hp : -9223372036854775808 ≤ p ∧ p ≤ 9223372036854775807) :
    Calls Try.prog 30 #[.pointer (some ⟨a, 0, none⟩), .int .i64 p, .int .i64 lb] w (FuMk w S a qs Ls p ⟨lb, 0, 0, 0⟩) := by
  have H := Lib.hid h
  obtain ⟨hB, _, gs, qA, qc, tb, vs, hb, hs⟩ := h
  have HM := Lib.hid (makeF_any hs hB p ⟨lb, 0, 0, 0⟩ hp)
  have c0 : w.cell? ⟨a, 0, none⟩ = some (.pointer (some ⟨gs, 0, none⟩)) := cell_blk hb 0
  have HB := Lib.hid hb; have HBB := Lib.hid hB
  unfold futA at HM
  clear hB hb hs
  go_enter Try.func30, Try.ntmps30
  go_wp2_with fail
  refine HM.out.mono ?_
  rintro e w1 ⟨rfl, S', vs', hs', hst⟩
  have HF := Lib.hid (H.out.next HB.out (HBB.out.mk' (p := p) ⟨lb, 0, 0, 0⟩) hs' hst)
  clear hs' hst c0
  go_wp2_with fail
  go_ret2
  exact ⟨rfl, HF.out⟩
set_option maxHeartbeats 1000000 in
theorem fuCount_any (h : FuV w S a qs Ls) (p : Int) : Calls Try.prog 38 #[.pointer (some ⟨a, 0, none⟩), .int .i64 p] w fun e w' => e = .returned (.int .i64 (cntZ Ls p : Nat)) ∧ w = w' := by
  obtain ⟨hB, _, gs, qA, qc, tb, vs, hb, hs⟩ := h
  have HM := Lib.hid (countF_any hs p)
  have c0 : w.cell? ⟨a, 0, none⟩ = some (.pointer (some ⟨gs, 0, none⟩)) := cell_blk hb 0
  clear hB hb hs
  go_enter Try.func38, Try.ntmps38
  go_wp2_with fail
  refine HM.out.mono ?_
  rintro e w1 ⟨rfl, rfl⟩
  go_wp2_with fail
  go_ret
  exact ⟨rfl, rfl⟩
set_option maxHeartbeats 1000000 in
theorem fuGet_any (h : FuV w S a qs Ls) (id : Int) (hid : -2147483648 ≤ id ∧ id ≤ 2147483647) :
    Calls Try.prog 36 #[.pointer (some ⟨a, 0, none⟩), .int .i32 id] w (GotF w Ls id) := by
  have HLT := Lib.hid (h.lt a h.2.1)
  obtain ⟨hB, _, gs, qA, qc, tb, vs, hb, hs⟩ := h
  have HM := Lib.hid (fun w' (hb : Below w.heap.size w w') => getF_any (hs.below hb) hB id hid)
  have c0 : w.cell? ⟨a, 0, none⟩ = some (.pointer (some ⟨gs, 0, none⟩)) := cell_blk hb 0
  have g0 := HLT.out
  obtain ⟨x, hx⟩ : ∃ x, itmZ Ls id zF = x := ⟨_, rfl⟩
  obtain ⟨b, hbb⟩ : ∃ b, isIn Ls id = b := ⟨_, rfl⟩
  have HR : Hid (∀ w', Below w.heap.size w w' → GotF w Ls id (.returned (.tuple #[.agg #[.int .i64 x.lb, .int .i64 x.st, .int .i32 x.v, .int .i64 x.code], .bool b])) w') := Lib.hid fun w' hb => ⟨by rw [hx, hbb]; rfl, hb⟩
  unfold GotF at HM
  rw [hx, hbb] at HM
  unfold futA at HM
  clear hB hb hs hid hx hbb
  go_enter Try.func36, Try.ntmps36
  go_wp2_with fail
  refine (HM.out _ (below_alloc _ _)).mono ?_
  rintro e w1 ⟨rfl, hb⟩
  obtain ⟨q0, q1, q2, q3⟩ : w1.cell? ⟨w.heap.size, 0, none⟩ = some (.int .i64 0) ∧ w1.cell? ⟨w.heap.size, 1, none⟩ = some (.int .i64 0) ∧ w1.cell? ⟨w.heap.size, 2, none⟩ = some (.int .i32 0) ∧ w1.cell? ⟨w.heap.size, 3, none⟩ = some (.int .i64 0) := by
    have e := (hb.block w.heap.size (by simp)).trans (heap_alloc_new w _)
    exact ⟨by rw [cell_blk e]; rfl, by rw [cell_blk e]; rfl, by rw [cell_blk e]; rfl, by rw [cell_blk e]; rfl⟩
  have hfz : ∀ i, w1.frozen? ⟨w.heap.size, i, none⟩ = false := fun i => frozen_blk ((hb.block w.heap.size (by simp)).trans (heap_alloc_new w (.cells #[.int .i64 0, .int .i64 0, .int .i32 0, .int .i64 0] 64))) i
  have y0 := hfz 0
  have y1 := hfz 1
  have y2 := hfz 2
  have y3 := hfz 3
  clear hfz
  have HB := Lib.hid hb
  have q4 : w.heap.size < w1.heap.size := by have := hb.size; simp at this; omega
  clear hb
  go_wp2_with fail
  refine bodyPost_ret (by simp [results, Try.results36, go_sem, q0, q1, q2, q3]) rfl (HR.out _ ?_)
  exact (((((below_alloc w _).trans (HB.out.mono (by simp))).setCell (by simp) _).setCell (by simp) _).setCell (by simp) _).setCell (by simp) _
end

end Go.Proofs.Ytboelofkbhgmfaa
