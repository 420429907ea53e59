/- Package arena, over its store. -/
import Derived.Test.YtboelofkbhgmfaaQugR12
namespace Go.Proofs.Ytboelofkbhgmfaa
set_option maxRecDepth 100000
open Go.RowKit

theorem StoK.congr {X : Type} {enc : X → Array Value} {w : World} {S T : Nat → Prop} {t e er sz gs qc tb : Nat} {qA : Option Addr} {vs : List Value} {qs : List Int} {Ls : List (List X)}
    (h : StoK enc w S t e er sz gs qA qc tb vs qs Ls) (hs : ∀ i, S i ↔ T i) : StoK enc w T t e er sz gs qA qc tb vs qs Ls := by
  rw [show T = S from funext fun i => propext (hs i).symm]; exact h
/-- The arena: block a, which points to its store; S: all its blocks. -/
def ArV (w : World) (S : Nat → Prop) (a : Nat) (qs : List Int) (Ls : List (List RefX)) : Prop :=
  Bnd qs Ls ∧ S a ∧ ∃ gs qA qc tb vs, w.heap[a]? = some (.cells #[.pointer (some ⟨gs, 0, none⟩)] 111 (0, 0)) ∧ StoR w (fun i => S i ∧ i ≠ a) gs qA qc tb vs qs Ls
section
variable {w w' : World} {S T : Nat → Prop} {a : Nat} {qs : List Int} {Ls : List (List RefX)}
theorem ArV.lt (h : ArV w S a qs Ls) : ∀ i, S i → i < w.heap.size := by
  obtain ⟨_, _, gs, qA, qc, tb, vs, hb, hs⟩ := h
  intro i hi
  by_cases e : i = a
  · subst e; exact (Array.getElem?_eq_some_iff.1 hb).1
  · exact hs.lt i ⟨hi, e⟩
theorem ArV.keep (h : ArV w S a qs Ls) (hf : Frm T w w') (hd : ∀ i, S i → ¬ T i) : ArV w' S a qs Ls := by
  have hl := h.lt
  obtain ⟨hB, ha, gs, qA, qc, tb, vs, hb, hs⟩ := h
  exact ⟨hB, ha, gs, qA, qc, tb, vs, (hf.block a (hl a ha) (hd a ha)).trans hb, hs.keep hf fun i hi => hd i hi.1⟩
theorem ArV.below (h : ArV w S a qs Ls) (hb : Below w.heap.size w w') : ArV w' S a qs Ls := h.keep (T := fun _ => False) (Frm.of_below hb) fun _ _ => id
theorem ArV.next {S' : Nat → Prop} {Ls' : List (List RefX)} (h : ArV w S a qs Ls) {gs qc tb : Nat} {qA : Option Addr} {vs' : List Value} (hb : w.heap[a]? = some (.cells #[.pointer (some ⟨gs, 0, none⟩)] 111 (0, 0))) (hB : Bnd qs Ls')
    (hs : StoR w' S' gs qA qc tb vs' qs Ls') (hst : Stp (fun i => S i ∧ i ≠ a) S' w w') : ∃ S'', ArV w' S'' a qs Ls' ∧ Stp S S'' w w' := by
  have hl := h.lt
  have ha := h.2.1
  have hna : ¬ S' a := fun e => (hst.old a (hl a ha) e).2 rfl
  refine ⟨fun i => S' i ∨ i = a, ⟨hB, .inr rfl, gs, qA, qc, tb, vs', ?_, hs.congr fun i => ⟨fun hi => ⟨.inl hi, fun e => hna (e ▸ hi)⟩, fun hi => hi.1.resolve_right hi.2⟩⟩, ?_, ?_, ?_⟩
  · exact (hst.frm.block a (hl a ha) (fun e => e.2 rfl)).trans hb
  · exact hst.frm.more fun i _ hi => hi.1
  · rintro i hi (h1 | rfl)
    · exact (hst.old i hi h1).1
    · exact ha
  · rintro i (h1 | rfl)
    · exact hst.lt i h1
    · exact Nat.lt_of_lt_of_le (hl _ ha) hst.frm.size
end
theorem own_frozen {w : World} {base e sz n c g m : Nat} {xs : List Value} (h : w.ownsRow base e sz (.slice (some ⟨g, 0, none⟩) n c) m xs) (i : Nat) : w.frozen? ⟨g, i, none⟩ = false := by
  rcases h.2 with ⟨e, _⟩ | ⟨g', cap, cur, e1, _, hg, _⟩
  · cases e
  · injection e1 with e1
    injection e1 with e1
    injection e1 with e1 _
    subst e1
    exact frozen_blk hg i
/-- A new arena. -/
def ArM (w : World) (l : List Int) (e : Ending) (w' : World) : Prop := ∃ a, e = .returned (.pointer (some ⟨a, 0, none⟩)) ∧ ArV w' (fun b => w.heap.size ≤ b ∧ b < w'.heap.size) a (quotasZ l) (List.replicate (min l.length 16) []) ∧ Below w.heap.size w w'
theorem arNew_any (v : Value) (l : List Int) (w : World) (h : NumV w w.heap.size v l) (hn : l.length ≤ 1000) : Calls Try.prog 17 #[v] w (ArM w l) := by
  have HN := Lib.hid (newStoR_any v l w h hn)
  clear h hn
  go_enter Try.func17, Try.ntmps17
  go_wp2_with fail
  refine HN.out.mono ?_
  rintro e w1 ⟨gs, qA, qc, tb, vs, rfl, hs, hb⟩
  have HS := Lib.hid hs; have HB := Lib.hid hb
  clear hs hb
  go_wp2_with fail
  go_ret
  have hlt := HS.out.lt
  refine ⟨w1.heap.size, rfl, ⟨Bnd.new l, ⟨HB.out.size, by simp⟩, gs, qA, qc, tb, vs, heap_alloc_new _ _, ?_⟩, HB.out.alloc HB.out.size _⟩
  refine (HS.out.below (below_alloc w1 _)).congr fun i => ⟨fun hi => ?_, fun hi => ?_⟩
  · have := hi.2
    exact ⟨⟨hi.1, by simp; omega⟩, by omega⟩
  · obtain ⟨⟨h1, h2⟩, h3⟩ := hi
    rw [World.size_alloc] at h2
    exact ⟨h1, by omega⟩
def ArMk (w : World) (S : Nat → Prop) (a : Nat) (qs : List Int) (Ls : List (List RefX)) (p : Int) (x : RefX) (e : Ending) (w' : World) : Prop :=
  e = .returned (.tuple #[.int .i32 (mkId qs Ls p), .bool (mkB qs Ls p)]) ∧ ∃ S', ArV w' S' a qs (mkL qs Ls p x) ∧ Stp S S' w w'
def ArSt (w : World) (S : Nat → Prop) (a : Nat) (qs : List Int) (Ls : List (List RefX)) (id v : Int) (e : Ending) (w' : World) : Prop :=
  e = .returned (.bool (isIn Ls id)) ∧ ∃ S', ArV w' S' a qs (setZ Ls id fun x => { x with v := v }) ∧ Stp S S' w w'
section
variable {w : World} {S : Nat → Prop} {a : Nat} {qs : List Int} {Ls : List (List RefX)}
set_option maxHeartbeats 1000000 in
theorem arMake_any (h : ArV w S a qs Ls) (p lb v : Int) (hp : -9223372036854775808 ≤ p ∧ p ≤ 9223372036854775807) :
    Calls Try.prog 19 #[.pointer (some ⟨a, 0, none⟩), .int .i64 p, .int .i64 lb, .int .i32 v] w (ArMk w S a qs Ls p ⟨lb, v⟩) := by
  have H := Lib.hid h
  obtain ⟨hB, _, gs, qA, qc, tb, vs, hb, hs⟩ := h
  have HM := Lib.hid (makeR_any hs hB p ⟨lb, v⟩ hp)
  have c0 : w.cell? ⟨a, 0, none⟩ = some (.pointer (some ⟨gs, 0, none⟩)) := cell_blk hb 0
  have HB := Lib.hid hb; have HBB := Lib.hid hB
  unfold refA at HM
  clear hB hb hs
  go_enter Try.func19, Try.ntmps19
  go_wp2_with fail
  refine HM.out.mono ?_
  rintro e w1 ⟨rfl, S', vs', hs', hst⟩
  have HF := Lib.hid (H.out.next HB.out (HBB.out.mk' (p := p) ⟨lb, v⟩) hs' hst)
  clear hs' hst c0
  go_wp2_with fail
  go_ret2
  exact ⟨rfl, HF.out⟩
set_option maxHeartbeats 1000000 in
theorem arCount_any (h : ArV w S a qs Ls) (p : Int) : Calls Try.prog 25 #[.pointer (some ⟨a, 0, none⟩), .int .i64 p] w fun e w' => e = .returned (.int .i64 (cntZ Ls p : Nat)) ∧ w = w' := by
  obtain ⟨hB, _, gs, qA, qc, tb, vs, hb, hs⟩ := h
  have HM := Lib.hid (countR_any hs p)
  have c0 : w.cell? ⟨a, 0, none⟩ = some (.pointer (some ⟨gs, 0, none⟩)) := cell_blk hb 0
  clear hB hb hs
  go_enter Try.func25, Try.ntmps25
  go_wp2_with fail
  refine HM.out.mono ?_
  rintro e w1 ⟨rfl, rfl⟩
  go_wp2_with fail
  go_ret
  exact ⟨rfl, rfl⟩
set_option maxHeartbeats 1000000 in
theorem arGet_any (h : ArV w S a qs Ls) (id : Int) (hid : -2147483648 ≤ id ∧ id ≤ 2147483647) :
    Calls Try.prog 21 #[.pointer (some ⟨a, 0, none⟩), .int .i32 id] w (GotR w Ls id) := by
  have HLT := Lib.hid (h.lt a h.2.1)
  obtain ⟨hB, _, gs, qA, qc, tb, vs, hb, hs⟩ := h
  have HM := Lib.hid (fun w' (hb : Below w.heap.size w w') => getR_any (hs.below hb) hB id hid)
  have c0 : w.cell? ⟨a, 0, none⟩ = some (.pointer (some ⟨gs, 0, none⟩)) := cell_blk hb 0
  have g0 := HLT.out
  obtain ⟨x, hx⟩ : ∃ x, itmZ Ls id zR = x := ⟨_, rfl⟩
  obtain ⟨b, hbb⟩ : ∃ b, isIn Ls id = b := ⟨_, rfl⟩
  have HR : Hid (∀ w', Below w.heap.size w w' → GotR w Ls id (.returned (.tuple #[.agg #[.int .i64 x.lb, .int .i32 x.v], .bool b])) w') := Lib.hid fun w' hb => ⟨by rw [hx, hbb]; rfl, hb⟩
  unfold GotR at HM
  rw [hx, hbb] at HM
  unfold refA at HM
  clear hB hb hs hid hx hbb
  go_enter Try.func21, Try.ntmps21
  go_wp2_with fail
  refine (HM.out _ (below_alloc _ _)).mono ?_
  rintro e w1 ⟨rfl, hb⟩
  obtain ⟨q0, q1⟩ : w1.cell? ⟨w.heap.size, 0, none⟩ = some (.int .i64 0) ∧ w1.cell? ⟨w.heap.size, 1, none⟩ = some (.int .i32 0) := by
    have e := (hb.block w.heap.size (by simp)).trans (heap_alloc_new w _)
    exact ⟨by rw [cell_blk e]; rfl, by rw [cell_blk e]; rfl⟩
  have q2 : w1.frozen? ⟨w.heap.size, 0, none⟩ = false := by
    have e := (hb.block w.heap.size (by simp)).trans (heap_alloc_new w _)
    exact frozen_blk e 0
  have q3 : w1.frozen? ⟨w.heap.size, 1, none⟩ = false := by
    have e := (hb.block w.heap.size (by simp)).trans (heap_alloc_new w _)
    exact frozen_blk e 1
  have HB := Lib.hid hb
  have q4 : w.heap.size < w1.heap.size := by have := hb.size; simp at this; omega
  clear hb
  go_wp2_with fail
  refine bodyPost_ret (by simp [results, Try.results21, go_sem, q0, q1]) rfl (HR.out _ ?_)
  exact (((below_alloc w _).trans (HB.out.mono (by simp))).setCell (by simp) _).setCell (by simp) _
set_option maxHeartbeats 1000000 in
theorem arSet_any (h : ArV w S a qs Ls) (id v : Int) (hid : -2147483648 ≤ id ∧ id ≤ 2147483647) :
    Calls Try.prog 23 #[.pointer (some ⟨a, 0, none⟩), .int .i32 id, .int .i32 v] w (ArSt w S a qs Ls id v) := by
  have H := Lib.hid h
  obtain ⟨hB, _, gs, qA, qc, tb, vs, hb, hs⟩ := h
  have HM := Lib.hid (findR_any hs hB id hid)
  have c0 : w.cell? ⟨a, 0, none⟩ = some (.pointer (some ⟨gs, 0, none⟩)) := cell_blk hb 0
  have HB := Lib.hid hb; have HBB := Lib.hid hB; have HS := Lib.hid hs
  clear hB hb hs hid
  go_enter Try.func23, Try.ntmps23
  go_wp2_with fail
  refine HM.out.mono ?_
  rintro e w' ⟨hc, m, rfl⟩
  rcases hc with ⟨hi, rfl⟩ | ⟨k, j, g, c, hk, hj, h1, h2, hi, hit, hse, hv, rfl⟩
  · have HF : Hid (∀ n, ArSt w S a qs Ls id v (.returned (.bool false)) (w.drewN n)) := Lib.hid fun n => ⟨by rw [hi], S, by rw [setZ_no hi]; exact H.out.below (below_drewN (Below.refl _ _) n), Stp.of_below (below_drewN (Below.refl _ _) n) H.out.lt⟩
    clear hi
    go_wp2_with fail
    go_ret
    exact HF.out _
  · obtain ⟨l1, l2, l3⟩ := itm_cellsR HS.out hk hj hv
    have l4 : w.cell? ⟨g, j * 2 + 1, none⟩ = some (.int .i32 Ls[k][j].v) := l3 1 _ rfl
    have l5 : w.frozen? ⟨g, j * 2 + 1, none⟩ = false := own_frozen (HS.out.row _ _ _ hv (List.getElem?_eq_getElem hk)) _
    have hx : refA { Ls[k][j] with v := v } = (refA Ls[k][j]).setIfInBounds 1 (.int .i32 v) := rfl
    have hset := HS.out.set hk hj (i := 1) (by omega) hv hx
    have hgS := (HS.out.rS _ (List.mem_of_getElem? hv) g rfl).1
    have HF : Hid (∀ n, ArSt w S a qs Ls id v (.returned (.bool true)) ((w.drewN n).setCell ⟨g, j * 2 + 1, none⟩ (.int .i32 v))) := Lib.hid fun n => by
      refine ⟨by rw [hi], H.out.next HB.out ?_ (w' := (w.drewN n).setCell ⟨g, j * 2 + 1, none⟩ (.int .i32 v)) (S' := fun i => S i ∧ i ≠ a) (qA := qA) (qc := qc) (tb := tb) (vs' := vs) ?_ ?_⟩
      · exact HBB.out.set' _
      · rw [hse]
        exact hset.keep (T := fun _ => False) ⟨rfl, rfl, rfl, Nat.le_refl _, fun _ _ _ => rfl⟩ (fun _ _ h => h)
      · refine ⟨?_, fun _ _ h => h, fun i hi => by simpa [World.setCell] using HS.out.lt i hi⟩
        exact ((Frm.refl (fun i => S i ∧ i ≠ a) w).drewN n).then (Frm.setCell (w := w.drewN n) (p := ⟨g, j * 2 + 1, none⟩) hgS _)
    generalize Ls[k][j].v = old at *
    clear hi hit hse hv h1 h2 hset hx l2 l3 hgS
    go_wp2_with fail
    go_ret
    exact HF.out _
end

end Go.Proofs.Ytboelofkbhgmfaa
