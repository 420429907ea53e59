/- Package future: settle, Keep, Break. (Drawn by gen/mkset13.py.) -/
import Derived.Test.YtboelofkbhgmfaaFut13
import Derived.IntWalk
namespace Go.Proofs.Ytboelofkbhgmfaa
set_option maxRecDepth 100000
open Go.RowKit

def openB (Ls : List (List FutX)) (id : Int) : Bool := isIn Ls id && (itmZ Ls id zF).st == 0
def endL (Ls : List (List FutX)) (id : Int) (f : FutX → FutX) : List (List FutX) := if openB Ls id then setZ Ls id f else Ls
def keepF (v : Int) (x : FutX) : FutX := { x with st := 1, v := v }
def breakF (c : Int) (x : FutX) : FutX := { x with st := 2, code := c }
def FuEn (w : World) (S : Nat → Prop) (a : Nat) (qs : List Int) (Ls : List (List FutX)) (id : Int) (f : FutX → FutX) (e : Ending) (w' : World) : Prop :=
  e = .returned (.bool (openB Ls id)) ∧ ∃ S', FuV w' S' a qs (endL Ls id f) ∧ Stp S S' w w'
theorem endL_no {Ls : List (List FutX)} {id : Int} (h : openB Ls id = false) (f : FutX → FutX) : endL Ls id f = Ls := by unfold endL; rw [h]; rfl
theorem endL_yes {Ls : List (List FutX)} {id : Int} (h : openB Ls id = true) (f : FutX → FutX) : endL Ls id f = setZ Ls id f := by unfold endL; rw [h]; rfl
theorem Bnd.end' {qs : List Int} {Ls : List (List FutX)} {id : Int} (h : Bnd qs Ls) (f : FutX → FutX) : Bnd qs (endL Ls id f) := by unfold endL; split; exact h.set' f; exact h
theorem StoK.out {X : Type} {enc : X → Array Value} {w w' : World} {S : Nat → Prop} {t e er sz gs qc tb : Nat} {qA : Option Addr} {vs : List Value} {qs : List Int} {Ls : List (List X)} (h : StoK enc w S t e er sz gs qA qc tb vs qs Ls) (hh : w'.heap = w.heap) (ho : w'.os = w.os) (ht : w'.tape = w.tape) (hp : w'.output = w.output) : StoK enc w' S t e er sz gs qA qc tb vs qs Ls :=
  h.keep (T := fun _ => False) ⟨ho, ht, hp, by rw [hh]; exact Nat.le_refl _, fun k _ _ => by rw [hh]⟩ (fun _ _ e => e)
section
variable {w : World} {S : Nat → Prop} {a : Nat} {qs : List Int} {Ls : List (List FutX)}

set_option maxHeartbeats 1000000 in
theorem putK_any (v : Int) (g o : Nat) (w : World) (h1 : ∃ u, w.cell? ⟨g, o + 1, none⟩ = some u) (h2 : ∃ u, w.cell? ⟨g, o + 2, none⟩ = some u) (f1 : w.frozen? ⟨g, o + 1, none⟩ = false) (f2 : w.frozen? ⟨g, o + 2, none⟩ = false) :
    Calls Try.prog 64 #[.int .i32 v, .pointer (some ⟨g, o, none⟩)] w fun e w' => e = .returned (.tuple #[]) ∧ w' = (w.setCell ⟨g, o + 1, none⟩ (.int .i64 1)).setCell ⟨g, o + 2, none⟩ (.int .i32 v) := by
  obtain ⟨u1, h1⟩ := h1
  obtain ⟨u2, h2⟩ := h2
  go_enter Try.func64, Try.ntmps64
  go_wp2_with fail
  exact bodyPost_end (by simp [results, Try.results64, go_sem]) rfl ⟨rfl, rfl⟩

set_option maxRecDepth 100000 in
set_option maxHeartbeats 4000000 in
theorem fuK_any (h : FuV w S a qs Ls) (id v : Int) (hid : -2147483648 ≤ id ∧ id ≤ 2147483647) :
    Calls Try.prog 63 #[.pointer (some ⟨a, 0, none⟩), .int .i32 id, .func (.func 64) #[.int .i32 v] #[]] w (FuEn w S a qs Ls id (keepF v)) := by
  have H := Lib.hid h
  obtain ⟨hB, _, gs, qA, qc, tb, vs, hb, hs⟩ := h
  have HM := Lib.hid (findF_any hs hB id hid)
  have c0 : w.cell? ⟨a, 0, none⟩ = some (.pointer (some ⟨gs, 0, none⟩)) := cell_blk hb 0
  have HB := Lib.hid hb; have HBB := Lib.hid hB; have HS := Lib.hid hs
  clear hB hb hs hid
  have HNO : Hid (openB Ls id = false → ∀ n, FuEn w S a qs Ls id (keepF v) (.returned (.bool false)) (w.drewN n)) := Lib.hid fun hno n =>
    ⟨by rw [hno], S, by rw [endL_no hno]; exact H.out.below (below_drewN (Below.refl _ _) n), Stp.of_below (below_drewN (Below.refl _ _) n) H.out.lt⟩
  go_enter Try.func63, Try.ntmps63
  go_wp2_with fail
  refine HM.out.mono ?_
  rintro e w' ⟨hc, m, rfl⟩
  rcases hc with ⟨hi, rfl⟩ | ⟨k, j, g, c, hk, hj, h1, h2, hi, hit, hse, hv, rfl⟩
  · have HF := Lib.hid (HNO.out (by unfold openB; rw [hi]; rfl))
    clear hi HNO
    go_wp2_with fail
    go_ret
    exact HF.out _
  · obtain ⟨l1, l2, l3⟩ := itm_cellsF HS.out hk hj hv
    have x1 : w.cell? ⟨g, j * 4 + 1, none⟩ = some (.int .i64 Ls[k][j].st) := l3 1 _ rfl
    have x2 : w.cell? ⟨g, j * 4 + 2, none⟩ = some (.int .i32 Ls[k][j].v) := l3 2 _ rfl
    have hof := fun i => own_frozen (HS.out.row _ _ _ hv (List.getElem?_eq_getElem hk)) i
    have f1 := hof (j * 4 + 1)
    have f2 := hof (j * 4 + 2)
    by_cases hst : Ls[k][j].st = 0
    · have hop : openB Ls id = true := by unfold openB; rw [hi, hit, hst]; rfl
      have hA := HS.out.set hk hj (i := 1) (by omega) hv (u := .int .i64 1) (x' := { Ls[k][j] with st := 1 }) rfl
      have hk2 : k < (Ls.set k (Ls[k].set j { Ls[k][j] with st := 1 })).length := by simpa using hk
      have hj2 : j < (Ls.set k (Ls[k].set j { Ls[k][j] with st := 1 }))[k].length := by simpa using hj
      have hC := hA.set hk2 hj2 (i := 2) (by omega) hv (u := .int .i32 v) (x' := keepF v Ls[k][j]) (by simp [futA, keepF])
      have hgS := (HS.out.rS _ (List.mem_of_getElem? hv) g rfl).1
      have HF : Hid (∀ n, FuEn w S a qs Ls id (keepF v) (.returned (.bool true)) (((w.drewN n).setCell ⟨g, j * 4 + 1, none⟩ (.int .i64 1)).setCell ⟨g, j * 4 + 2, none⟩ (.int .i32 v))) := Lib.hid fun n => by
        refine ⟨by rw [hop], ?_⟩
        rw [endL_yes hop, hse]
        refine H.out.next HB.out ?_ (S' := fun i => S i ∧ i ≠ a) (qA := qA) (qc := qc) (tb := tb) (vs' := vs) ?_ ?_
        · rw [← hse (keepF v)]; exact HBB.out.set' _
        · have hC' : StoF ((w.setCell ⟨g, j * 4 + 1, none⟩ (.int .i64 1)).setCell ⟨g, j * 4 + 2, none⟩ (.int .i32 v)) (fun i => S i ∧ i ≠ a) gs qA qc tb vs qs (Ls.set k (Ls[k].set j (keepF v Ls[k][j]))) := by simpa using hC
          exact hC'.out rfl rfl rfl rfl
        · refine ⟨?_, fun _ _ h => h, fun i hi => by simpa [World.setCell] using HS.out.lt i hi⟩
          exact (((Frm.refl (fun i => S i ∧ i ≠ a) w).drewN n).then (Frm.setCell (w := w.drewN n) (p := ⟨g, j * 4 + 1, none⟩) hgS _)).then (Frm.setCell (p := ⟨g, j * 4 + 2, none⟩) hgS _)
      have HP := Lib.hid (fun n => putK_any v g (j * 4) (w.drewN n) ⟨_, x1⟩ ⟨_, x2⟩ f1 f2)
      have z1 : (Ls[k][j].st != 0) = false := by rw [hst]; rfl
      rw [hst] at x1
      clear hst hop hA hk2 hj2 hC hgS hi hit hse hv h1 h2 hof l2 l3 HNO
      generalize Ls[k][j].v = old at *
      go_wp2_with fail
      refine (HP.out _).mono ?_
      rintro e w2 ⟨rfl, rfl⟩
      go_wp2_with fail
      go_ret
      exact HF.out _
    · have hop : openB Ls id = false := by unfold openB; rw [hi, hit]; simpa using hst
      have HF := Lib.hid (HNO.out hop)
      have z1 : (Ls[k][j].st != 0) = true := by simpa using hst
      generalize Ls[k][j].st = old at *
      generalize Ls[k][j].v = old2 at *
      clear hop hi hit hse hv h1 h2 hof l2 l3 HNO
      go_wp2_with fail
      go_ret
      exact HF.out _
set_option maxHeartbeats 1000000 in
theorem fuKeep_any (h : FuV w S a qs Ls) (id v : Int) (hid : -2147483648 ≤ id ∧ id ≤ 2147483647) :
    Calls Try.prog 32 #[.pointer (some ⟨a, 0, none⟩), .int .i32 id, .int .i32 v] w (FuEn w S a qs Ls id (keepF v)) := by
  have HM := Lib.hid (fuK_any h id v hid)
  clear h hid
  go_enter Try.func32, Try.ntmps32
  go_wp2_with fail
  refine HM.out.mono ?_
  rintro e w' ⟨rfl, h⟩
  have HF := Lib.hid h
  clear h
  go_wp2_with fail
  go_ret
  exact ⟨rfl, HF.out⟩

set_option maxHeartbeats 1000000 in
theorem putB_any (v : Int) (g o : Nat) (w : World) (h1 : ∃ u, w.cell? ⟨g, o + 1, none⟩ = some u) (h2 : ∃ u, w.cell? ⟨g, o + 3, none⟩ = some u) (f1 : w.frozen? ⟨g, o + 1, none⟩ = false) (f2 : w.frozen? ⟨g, o + 3, none⟩ = false) :
    Calls Try.prog 66 #[.int .i64 v, .pointer (some ⟨g, o, none⟩)] w fun e w' => e = .returned (.tuple #[]) ∧ w' = (w.setCell ⟨g, o + 1, none⟩ (.int .i64 2)).setCell ⟨g, o + 3, none⟩ (.int .i64 v) := by
  obtain ⟨u1, h1⟩ := h1
  obtain ⟨u2, h2⟩ := h2
  go_enter Try.func66, Try.ntmps66
  go_wp2_with fail
  exact bodyPost_end (by simp [results, Try.results66, go_sem]) rfl ⟨rfl, rfl⟩

set_option maxRecDepth 100000 in
set_option maxHeartbeats 4000000 in
theorem fuB_any (h : FuV w S a qs Ls) (id v : Int) (hid : -2147483648 ≤ id ∧ id ≤ 2147483647) :
    Calls Try.prog 63 #[.pointer (some ⟨a, 0, none⟩), .int .i32 id, .func (.func 66) #[.int .i64 v] #[]] w (FuEn w S a qs Ls id (breakF v)) := by
  have H := Lib.hid h
  obtain ⟨hB, _, gs, qA, qc, tb, vs, hb, hs⟩ := h
  have HM := Lib.hid (findF_any hs hB id hid)
  have c0 : w.cell? ⟨a, 0, none⟩ = some (.pointer (some ⟨gs, 0, none⟩)) := cell_blk hb 0
  have HB := Lib.hid hb; have HBB := Lib.hid hB; have HS := Lib.hid hs
  clear hB hb hs hid
  have HNO : Hid (openB Ls id = false → ∀ n, FuEn w S a qs Ls id (breakF v) (.returned (.bool false)) (w.drewN n)) := Lib.hid fun hno n =>
    ⟨by rw [hno], S, by rw [endL_no hno]; exact H.out.below (below_drewN (Below.refl _ _) n), Stp.of_below (below_drewN (Below.refl _ _) n) H.out.lt⟩
  go_enter Try.func63, Try.ntmps63
  go_wp2_with fail
  refine HM.out.mono ?_
  rintro e w' ⟨hc, m, rfl⟩
  rcases hc with ⟨hi, rfl⟩ | ⟨k, j, g, c, hk, hj, h1, h2, hi, hit, hse, hv, rfl⟩
  · have HF := Lib.hid (HNO.out (by unfold openB; rw [hi]; rfl))
    clear hi HNO
    go_wp2_with fail
    go_ret
    exact HF.out _
  · obtain ⟨l1, l2, l3⟩ := itm_cellsF HS.out hk hj hv
    have x1 : w.cell? ⟨g, j * 4 + 1, none⟩ = some (.int .i64 Ls[k][j].st) := l3 1 _ rfl
    have x2 : w.cell? ⟨g, j * 4 + 3, none⟩ = some (.int .i64 Ls[k][j].code) := l3 3 _ rfl
    have hof := fun i => own_frozen (HS.out.row _ _ _ hv (List.getElem?_eq_getElem hk)) i
    have f1 := hof (j * 4 + 1)
    have f2 := hof (j * 4 + 3)
    by_cases hst : Ls[k][j].st = 0
    · have hop : openB Ls id = true := by unfold openB; rw [hi, hit, hst]; rfl
      have hA := HS.out.set hk hj (i := 1) (by omega) hv (u := .int .i64 2) (x' := { Ls[k][j] with st := 2 }) rfl
      have hk2 : k < (Ls.set k (Ls[k].set j { Ls[k][j] with st := 2 })).length := by simpa using hk
      have hj2 : j < (Ls.set k (Ls[k].set j { Ls[k][j] with st := 2 }))[k].length := by simpa using hj
      have hC := hA.set hk2 hj2 (i := 3) (by omega) hv (u := .int .i64 v) (x' := breakF v Ls[k][j]) (by simp [futA, breakF])
      have hgS := (HS.out.rS _ (List.mem_of_getElem? hv) g rfl).1
      have HF : Hid (∀ n, FuEn w S a qs Ls id (breakF v) (.returned (.bool true)) (((w.drewN n).setCell ⟨g, j * 4 + 1, none⟩ (.int .i64 2)).setCell ⟨g, j * 4 + 3, none⟩ (.int .i64 v))) := Lib.hid fun n => by
        refine ⟨by rw [hop], ?_⟩
        rw [endL_yes hop, hse]
        refine H.out.next HB.out ?_ (S' := fun i => S i ∧ i ≠ a) (qA := qA) (qc := qc) (tb := tb) (vs' := vs) ?_ ?_
        · rw [← hse (breakF v)]; exact HBB.out.set' _
        · have hC' : StoF ((w.setCell ⟨g, j * 4 + 1, none⟩ (.int .i64 2)).setCell ⟨g, j * 4 + 3, none⟩ (.int .i64 v)) (fun i => S i ∧ i ≠ a) gs qA qc tb vs qs (Ls.set k (Ls[k].set j (breakF v Ls[k][j]))) := by simpa using hC
          exact hC'.out rfl rfl rfl rfl
        · refine ⟨?_, fun _ _ h => h, fun i hi => by simpa [World.setCell] using HS.out.lt i hi⟩
          exact (((Frm.refl (fun i => S i ∧ i ≠ a) w).drewN n).then (Frm.setCell (w := w.drewN n) (p := ⟨g, j * 4 + 1, none⟩) hgS _)).then (Frm.setCell (p := ⟨g, j * 4 + 3, none⟩) hgS _)
      have HP := Lib.hid (fun n => putB_any v g (j * 4) (w.drewN n) ⟨_, x1⟩ ⟨_, x2⟩ f1 f2)
      have z1 : (Ls[k][j].st != 0) = false := by rw [hst]; rfl
      rw [hst] at x1
      clear hst hop hA hk2 hj2 hC hgS hi hit hse hv h1 h2 hof l2 l3 HNO
      generalize Ls[k][j].code = old at *
      go_wp2_with fail
      refine (HP.out _).mono ?_
      rintro e w2 ⟨rfl, rfl⟩
      go_wp2_with fail
      go_ret
      exact HF.out _
    · have hop : openB Ls id = false := by unfold openB; rw [hi, hit]; simpa using hst
      have HF := Lib.hid (HNO.out hop)
      have z1 : (Ls[k][j].st != 0) = true := by simpa using hst
      generalize Ls[k][j].st = old at *
      generalize Ls[k][j].code = old2 at *
      clear hop hi hit hse hv h1 h2 hof l2 l3 HNO
      go_wp2_with fail
      go_ret
      exact HF.out _
set_option maxHeartbeats 1000000 in
theorem fuBreak_any (h : FuV w S a qs Ls) (id v : Int) (hid : -2147483648 ≤ id ∧ id ≤ 2147483647) :
    Calls Try.prog 34 #[.pointer (some ⟨a, 0, none⟩), .int .i32 id, .int .i64 v] w (FuEn w S a qs Ls id (breakF v)) := by
  have HM := Lib.hid (fuB_any h id v hid)
  clear h hid
  go_enter Try.func34, Try.ntmps34
  go_wp2_with fail
  refine HM.out.mono ?_
  rintro e w' ⟨rfl, h⟩
  have HF := Lib.hid h
  clear h
  go_wp2_with fail
  go_ret
  exact ⟨rfl, HF.out⟩
end

end Go.Proofs.Ytboelofkbhgmfaa
