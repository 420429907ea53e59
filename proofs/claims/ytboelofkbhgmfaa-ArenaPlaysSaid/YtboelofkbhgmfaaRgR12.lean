/- The reference's arena: there, Get, Set. -/
import Derived.Test.YtboelofkbhgmfaaRfsR12
namespace Go.Proofs.Ytboelofkbhgmfaa
set_option maxRecDepth 100000
open Go.RowKit

section
variable {w : World} {S : Nat → Prop} {gs qc tb : Nat} {qA : Option Addr} {vs : List Value} {qs : List Int} {Ls : List (List RefX)}
theorem flipQ {f : FuncId} {args : Array Value} {w : World} {v : Value} (h : Calls Try.prog f args w fun e w' => e = .returned v ∧ w' = w) : Calls Try.prog f args w fun e w' => e = .returned v ∧ w' = w := h
set_option maxRecDepth 100000 in
set_option maxHeartbeats 4000000 in
theorem rThereR_any (h : RfoR w S gs qA qc tb vs qs Ls) (hB : Bnd qs Ls) (id : Int) (hid : -2147483648 ≤ id ∧ id ≤ 2147483647) :
    Calls Try.prog 56 #[.pointer (some ⟨gs, 0, none⟩), .int .i32 id] w fun e w' => e = .returned (.bool (isIn Ls id)) ∧ ∃ m, w' = w.drewN m := by
  have HC := Lib.hid (isIn_cases Ls id hB.n)
  have c0 : w.cell? ⟨gs, 1, none⟩ = some (.slice (some ⟨tb, 0, none⟩) Ls.length Ls.length) := cell_blk h.blk 1
  have HV := Lib.hid (fun n => refValid_any id (Ls.length : Int) (w.drewN n) hid)
  have HLB := Lib.hid (fun n => refLabel_any id (w.drewN n) hid)
  have HNB := Lib.hid (fun n => refNumber_any id (w.drewN n) hid)
  rcases HC.out with ⟨hv, hi⟩ | ⟨k, hlb, hk, j, hnb, hj, hv, hi⟩
  · rw [hv] at HV
    rw [hi]
    clear hv hi HC HLB HNB h hB
    generalize Ls.length = L at *
    go_enter Try.func56, Try.ntmps56
    go_wp2_with fail
    go_quiet ((go_at_call 68; with_reducible exact Calls.quiet_of_same (HV.out _)))
    go_wp2_with fail
    go_ret
    exact ⟨rfl, _, rfl⟩
  · obtain ⟨A, c, hx, c1, hx2⟩ := h.row_at hk
    clear hx hx2
    rw [hv] at HV
    rw [hlb] at HLB
    rw [hnb] at HNB
    have hin : isIn Ls id = decide (j < Ls[k].length) := by
      rcases hi with ⟨h1, h2⟩ | ⟨h1, h2, _⟩
      · rw [h2, decide_eq_false (by omega)]
      · rw [h2, decide_eq_true h1]
    rw [hin]
    obtain ⟨n, hn⟩ : ∃ n, Ls[k].length = n := ⟨_, rfl⟩
    rw [hn] at c1 ⊢
    obtain ⟨L, hL⟩ : ∃ L, Ls.length = L := ⟨_, rfl⟩
    rw [hL] at c0 HV
    have hkL : k < L := by omega
    have i1 : (0 : Int) ≤ (k : Int) ∧ (k : Int) < L := by omega
    obtain ⟨d, hd⟩ : ∃ d, decide (j < n) = d := ⟨_, rfl⟩
    have hd2 : decide ((j : Int) < (n : Int)) = d := by rw [← hd, decide_eq_decide]; omega
    rw [hd]
    clear hv hi HC h hB hlb hnb hn hL hk hid hin
    go_enter Try.func56, Try.ntmps56
    go_wp2_with fail
    go_quiet (first | (go_at_call 68; with_reducible exact Calls.quiet_of_same (HV.out _)) | (go_at_call 57; with_reducible exact Calls.quiet_of_same (HLB.out _)) | (go_at_call 58; with_reducible exact Calls.quiet_of_same (HNB.out _)))
    go_wp2_with fail
    go_ret
    exact ⟨rfl, _, rfl⟩
set_option maxRecDepth 100000 in
set_option maxHeartbeats 4000000 in
theorem rGetR_any (h : RfoR w S gs qA qc tb vs qs Ls) (hB : Bnd qs Ls) (id : Int) (hid : -2147483648 ≤ id ∧ id ≤ 2147483647) :
    Calls Try.prog 22 #[.pointer (some ⟨gs, 0, none⟩), .int .i32 id] w (GotR w Ls id) := by
  have hR : ∀ w', Below w.heap.size w w' → GotR w Ls id (.returned (.tuple #[.agg (refA (itmZ Ls id zR)), .bool (isIn Ls id)])) w' := fun w' hb => ⟨rfl, hb⟩
  have HR := Lib.hid hR
  obtain ⟨w1, hw1⟩ : ∃ w1, w1 = w.alloc (.cells #[.int .i64 0, .int .i32 0] 35) := ⟨_, rfl⟩
  have B1 : Hid (Below w.heap.size w w1) := Lib.hid (by rw [hw1]; exact below_alloc w _)
  have K1 : Hid (w1.heap[w.heap.size]? = some (.cells #[.int .i64 0, .int .i32 0] 35 (0, 0))) := Lib.hid (by rw [hw1]; exact heap_alloc_new w _)
  have HTH := Lib.hid (rThereR_any (h.below B1.out) hB id hid)
  have HW1 := Lib.hid hw1
  rcases isIn_cases Ls id hB.n with ⟨_, hi⟩ | ⟨k, hlb, hk, j, hnb, hj, _, ⟨_, hi⟩ | ⟨hjl, hi, hit, hse⟩⟩
  iterate 2
    rw [hi] at HTH HR
    rw [itmZ_no hi] at HR
    have x0 : w1.cell? ⟨w.heap.size, 0, none⟩ = some (.int .i64 0) := cell_blk K1.out 0
    have x1 : w1.cell? ⟨w.heap.size, 1, none⟩ = some (.int .i32 0) := cell_blk K1.out 1
    have f0 : w1.frozen? ⟨w.heap.size, 0, none⟩ = false := frozen_blk K1.out 0
    have f1 : w1.frozen? ⟨w.heap.size, 1, none⟩ = false := frozen_blk K1.out 1
    have hlt : w.heap.size < w1.heap.size := (Array.getElem?_eq_some_iff.1 K1.out).1
    clear hi h hB hw1 hR hid
    go_enter Try.func22, Try.ntmps22
    go_wp2_with fail
    rw [← HW1.out]
    refine HTH.out.mono ?_
    rintro e w' ⟨rfl, m, rfl⟩
    go_wp2_with fail
    unfold refA zR at HR
    refine bodyPost_ret (by simp [results, Try.results22, go_sem, x0, x1]) rfl (HR.out _ ?_)
    exact ((below_drewN B1.out m).setCell (Nat.le_refl _) _).setCell (Nat.le_refl _) _
  · rw [hi] at HTH HR
    rw [hit] at HR
    obtain ⟨A, c, hx, c1, hx2⟩ := h.row_at hk
    obtain ⟨g, eA, _, hce⟩ := own_itm hx2 refA_size hjl
    have HLB := Lib.hid (fun w' => refLabel_any id w' hid)
    have HNB := Lib.hid (fun w' => refNumber_any id w' hid)
    rw [hlb] at HLB
    rw [hnb] at HNB
    subst eA
    have hg : g < w.heap.size := h.lt g (h.rS _ (List.mem_of_getElem? hx) g rfl).1
    have c0 : w1.cell? ⟨gs, 1, none⟩ = some (.slice (some ⟨tb, 0, none⟩) Ls.length Ls.length) := (B1.out.cell (p := ⟨gs, 1, none⟩) (h.lt gs h.inS.1)).trans (cell_blk h.blk 1)
    have c1' : w1.cell? ⟨tb, k, none⟩ = _ := (B1.out.cell (p := ⟨tb, k, none⟩) (h.lt tb h.inS.2)).trans c1
    obtain ⟨x, hxx⟩ : ∃ x, Ls[k][j] = x := ⟨_, rfl⟩
    rw [hxx] at hce HR
    have y0 : w1.cell? ⟨g, j * 2, none⟩ = some (.int .i64 x.lb) := (B1.out.cell (p := ⟨g, j * 2, none⟩) hg).trans (hce 0 _ rfl)
    have y1 : w1.cell? ⟨g, j * 2 + 1, none⟩ = some (.int .i32 x.v) := (B1.out.cell (p := ⟨g, j * 2 + 1, none⟩) hg).trans (hce 1 _ rfl)
    have x0 : w1.cell? ⟨w.heap.size, 0, none⟩ = some (.int .i64 0) := cell_blk K1.out 0
    have x1 : w1.cell? ⟨w.heap.size, 1, none⟩ = some (.int .i32 0) := cell_blk K1.out 1
    have f0 : w1.frozen? ⟨w.heap.size, 0, none⟩ = false := frozen_blk K1.out 0
    have f1 : w1.frozen? ⟨w.heap.size, 1, none⟩ = false := frozen_blk K1.out 1
    have hlt : w.heap.size < w1.heap.size := (Array.getElem?_eq_some_iff.1 K1.out).1
    obtain ⟨n, hn⟩ : ∃ n, Ls[k].length = n := ⟨_, rfl⟩
    rw [hn] at c1'
    have hjn : j < n := by omega
    obtain ⟨L, hL⟩ : ∃ L, Ls.length = L := ⟨_, rfl⟩
    rw [hL] at c0
    have hkL : k < L := by omega
    have i1 : (0 : Int) ≤ (k : Int) ∧ (k : Int) < L := by omega
    have i2 : (0 : Int) ≤ (j : Int) ∧ (j : Int) < n := by omega
    unfold refA at HR
    clear hi hit hse h hB hw1 hR hid hlb hnb hx c1 hx2 hce hxx hn hL hjl hk
    go_enter Try.func22, Try.ntmps22
    go_wp2_with fail
    rw [← HW1.out]
    refine HTH.out.mono ?_
    rintro e w' ⟨rfl, m, rfl⟩
    go_wp2_with fail
    go_region_law
      (first
        | (refine step_go rfl ?_; go_simp; (with_reducible refine (HLB.out _).mono ?_); rintro e wA ⟨rfl, rfl⟩)
        | (refine step_go rfl ?_; go_simp; (with_reducible refine (HNB.out _).mono ?_); rintro e wA ⟨rfl, rfl⟩))
    all_goals
      go_wp2_with fail
      refine bodyPost_ret (by simp [results, Try.results22, go_sem, x0, x1]) rfl (HR.out _ ?_)
      (repeat' (first | exact B1.out | refine Below.setCell ?_ ?_ _ | refine below_drewN ?_ _ | refine Below.drew ?_)) <;> simp
/-- What Set answers and leaves. -/
def RSt (w : World) (S : Nat → Prop) (gs : Nat) (qA : Option Addr) (qc tb : Nat) (vs : List Value) (qs : List Int) (Ls : List (List RefX)) (id v : Int) (e : Ending) (w' : World) : Prop :=
  e = .returned (.bool (isIn Ls id)) ∧ RfoR w' S gs qA qc tb vs qs (setZ Ls id fun x => { x with v := v }) ∧ Stp S S w w'
set_option maxRecDepth 100000 in
set_option maxHeartbeats 4000000 in
theorem rSetR_any (h : RfoR w S gs qA qc tb vs qs Ls) (hB : Bnd qs Ls) (id v : Int) (hid : -2147483648 ≤ id ∧ id ≤ 2147483647) :
    Calls Try.prog 24 #[.pointer (some ⟨gs, 0, none⟩), .int .i32 id, .int .i32 v] w (RSt w S gs qA qc tb vs qs Ls id v) := by
  have HTH := Lib.hid (rThereR_any h hB id hid)
  have H := Lib.hid h
  rcases isIn_cases Ls id hB.n with ⟨_, hi⟩ | ⟨k, hlb, hk, j, hnb, hj, _, ⟨_, hi⟩ | ⟨hjl, hi, hit, hse⟩⟩
  iterate 2
    have HF : Hid (∀ m, RSt w S gs qA qc tb vs qs Ls id v (.returned (.bool false)) (w.drewN m)) := Lib.hid fun m => ⟨by rw [hi], by rw [setZ_no hi]; exact H.out.below (below_drewN (Below.refl _ _) m), Stp.of_below (below_drewN (Below.refl _ _) m) H.out.lt⟩
    rw [hi] at HTH
    clear hi h hB hid
    go_enter Try.func24, Try.ntmps24
    go_wp2_with fail
    refine HTH.out.mono ?_
    rintro e w' ⟨rfl, m, rfl⟩
    go_wp2_with fail
    go_ret
    exact HF.out _
  · obtain ⟨A, c, hx, c1, hx2⟩ := h.row_at hk
    obtain ⟨g, eA, _, hce⟩ := own_itm hx2 refA_size hjl
    have HLB := Lib.hid (fun w' => refLabel_any id w' hid)
    have HNB := Lib.hid (fun w' => refNumber_any id w' hid)
    rw [hlb] at HLB
    rw [hnb] at HNB
    subst eA
    have hgS := (h.rS _ (List.mem_of_getElem? hx) g rfl).1
    have hg : g < w.heap.size := h.lt g hgS
    have c0 : w.cell? ⟨gs, 1, none⟩ = some (.slice (some ⟨tb, 0, none⟩) Ls.length Ls.length) := cell_blk h.blk 1
    have y1 : w.cell? ⟨g, j * 2 + 1, none⟩ = some (.int .i32 Ls[k][j].v) := hce 1 _ rfl
    have fz : w.frozen? ⟨g, j * 2 + 1, none⟩ = false := by
      rcases hx2.2 with ⟨e, _⟩ | ⟨g', _, _, e, _, hg', _⟩
      · cases e
      · have e1 : g = g' := by injection e with e; injection e with e; injection e
        subst e1; exact frozen_blk hg' _
    have hset := h.set hk hjl (i := 1) (by omega) hx (u := .int .i32 v) (x' := { Ls[k][j] with v := v }) rfl
    have HF : Hid (∀ n, RSt w S gs qA qc tb vs qs Ls id v (.returned (.bool true)) ((w.drewN n).setCell ⟨g, j * 2 + 1, none⟩ (.int .i32 v))) := Lib.hid fun n => by
      refine ⟨by rw [hi], ?_, ?_, fun _ _ h => h, fun i hi => by simpa [World.setCell] using H.out.lt i hi⟩
      · rw [hse]
        exact hset.keep (T := fun _ => False) ⟨rfl, rfl, rfl, Nat.le_refl _, fun _ _ _ => rfl⟩ (fun _ _ h => h)
      · exact ((Frm.refl S w).drewN n).then (Frm.setCell (w := w.drewN n) (p := ⟨g, j * 2 + 1, none⟩) hgS _)
    rw [hi] at HTH
    obtain ⟨n, hn⟩ : ∃ n, Ls[k].length = n := ⟨_, rfl⟩
    obtain ⟨L, hL⟩ : ∃ L, Ls.length = L := ⟨_, rfl⟩
    rw [hL] at c0
    have hkL : k < L := by omega
    have i1 : (0 : Int) ≤ (k : Int) ∧ (k : Int) < L := by omega
    have hjn : j < n := by omega
    have i2 : (0 : Int) ≤ (j : Int) ∧ (j : Int) < n := by omega
    rw [hn] at c1
    generalize Ls[k][j].v = old at *
    clear hi hit hse h hB hid hlb hnb hx hx2 hce hset hgS hn hL hjl hk
    go_enter Try.func24, Try.ntmps24
    go_wp2_with fail
    refine HTH.out.mono ?_
    rintro e w' ⟨rfl, m, rfl⟩
    go_wp2_with fail
    go_region_law
      (first
        | (refine step_go rfl ?_; go_simp; (with_reducible refine (HLB.out _).mono ?_); rintro e wA ⟨rfl, rfl⟩)
        | (refine step_go rfl ?_; go_simp; (with_reducible refine (HNB.out _).mono ?_); rintro e wA ⟨rfl, rfl⟩))
    all_goals
      go_wp2_with fail
      go_ret
      exact HF.out _
end

end Go.Proofs.Ytboelofkbhgmfaa
