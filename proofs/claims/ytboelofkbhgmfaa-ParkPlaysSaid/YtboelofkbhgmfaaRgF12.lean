/- The reference's futures: Get, end, Keep, Break. -/
import Derived.Test.YtboelofkbhgmfaaRfsF12
import Derived.Test.YtboelofkbhgmfaaSet13
namespace Go.Proofs.Ytboelofkbhgmfaa
set_option maxRecDepth 100000
open Go.RowKit

section
variable {w : World} {S : Nat → Prop} {gs qc tb : Nat} {qA : Option Addr} {vs : List Value} {qs : List Int} {Ls : List (List FutX)}
set_option maxRecDepth 100000 in
set_option maxHeartbeats 8000000 in
theorem rGetF_any (h : RfoF w S gs qA qc tb vs qs Ls) (hB : Bnd qs Ls) (id : Int) (hid : -2147483648 ≤ id ∧ id ≤ 2147483647) :
    Calls Try.prog 37 #[.pointer (some ⟨gs, 0, none⟩), .int .i32 id] w (GotF w Ls id) := by
  have hR : ∀ w', Below w.heap.size w w' → GotF w Ls id (.returned (.tuple #[.agg (futA (itmZ Ls id zF)), .bool (isIn Ls id)])) w' := fun w' hb => ⟨rfl, hb⟩
  have HR := Lib.hid hR
  obtain ⟨w1, hw1⟩ : ∃ w1, w1 = w.alloc (.cells #[.int .i64 0, .int .i64 0, .int .i32 0, .int .i64 0] 64) := ⟨_, rfl⟩
  have B1 : Hid (Below w.heap.size w w1) := Lib.hid (by rw [hw1]; exact below_alloc w _)
  have K1 : Hid (w1.heap[w.heap.size]? = some (.cells #[.int .i64 0, .int .i64 0, .int .i32 0, .int .i64 0] 64 (0, 0))) := Lib.hid (by rw [hw1]; exact heap_alloc_new w _)
  have HW1 := Lib.hid hw1
  have x0 : w1.cell? ⟨w.heap.size, 0, none⟩ = some (.int .i64 0) := cell_blk K1.out 0
  have x1 : w1.cell? ⟨w.heap.size, 1, none⟩ = some (.int .i64 0) := cell_blk K1.out 1
  have x2 : w1.cell? ⟨w.heap.size, 2, none⟩ = some (.int .i32 0) := cell_blk K1.out 2
  have x3 : w1.cell? ⟨w.heap.size, 3, none⟩ = some (.int .i64 0) := cell_blk K1.out 3
  have f0 : w1.frozen? ⟨w.heap.size, 0, none⟩ = false := frozen_blk K1.out 0
  have f1 : w1.frozen? ⟨w.heap.size, 1, none⟩ = false := frozen_blk K1.out 1
  have f2 : w1.frozen? ⟨w.heap.size, 2, none⟩ = false := frozen_blk K1.out 2
  have f3 : w1.frozen? ⟨w.heap.size, 3, none⟩ = false := frozen_blk K1.out 3
  have hlt : w.heap.size < w1.heap.size := (Array.getElem?_eq_some_iff.1 K1.out).1
  have c0 : w1.cell? ⟨gs, 1, none⟩ = some (.slice (some ⟨tb, 0, none⟩) Ls.length Ls.length) := (B1.out.cell (p := ⟨gs, 1, none⟩) (h.lt gs h.inS.1)).trans (cell_blk h.blk 1)
  have HV := Lib.hid (fun n => refValid_any id (Ls.length : Int) (w1.drewN n) hid)
  have HLB := Lib.hid (fun n => refLabel_any id (w1.drewN n) hid)
  have HNB := Lib.hid (fun n => refNumber_any id (w1.drewN n) hid)
  have HBD := Lib.hid (fun n => below_drewN B1.out n)
  rcases isIn_cases Ls id hB.n with ⟨hv, hi⟩ | ⟨k, hlb, hk, j, hnb, hj, hv, hcs⟩
  · rw [hi, itmZ_no hi] at HR
    rw [hv] at HV
    unfold futA zF at HR
    clear hi hv h hB hw1 hR hid
    generalize Ls.length = L at *
    go_enter Try.func37, Try.ntmps37
    go_wp2_with fail
    rw [← HW1.out]
    go_quiet ((go_at_call 68; with_reducible exact Calls.quiet_of_same (HV.out _)))
    go_wp2_with fail
    refine bodyPost_ret (by simp [results, Try.results37, go_sem, x0, x1, x2, x3]) rfl (HR.out _ ?_)
    exact ((((HBD.out _).setCell (Nat.le_refl _) _).setCell (Nat.le_refl _) _).setCell (Nat.le_refl _) _).setCell (Nat.le_refl _) _
  · obtain ⟨A, c, hx, c1, hx2⟩ := h.row_at hk
    have c1' : w1.cell? ⟨tb, k, none⟩ = _ := (B1.out.cell (p := ⟨tb, k, none⟩) (h.lt tb h.inS.2)).trans c1
    rw [hv] at HV
    rw [hlb] at HLB
    rw [hnb] at HNB
    obtain ⟨n, hn⟩ : ∃ n, Ls[k].length = n := ⟨_, rfl⟩
    obtain ⟨L, hL⟩ : ∃ L, Ls.length = L := ⟨_, rfl⟩
    rw [hL] at c0 HV
    have hkL : k < L := by omega
    have i1 : (0 : Int) ≤ (k : Int) ∧ (k : Int) < L := by omega
    rcases hcs with ⟨hle, hi⟩ | ⟨hjl, hi, hit, hse⟩
    · rw [hi, itmZ_no hi] at HR
      rw [hn] at hle
      have z1 : decide (n ≤ j) = true := by simpa using hle
      have z2 : decide ((n : Int) ≤ (j : Int)) = true := by simpa using hle
      unfold futA zF at HR
      rw [hn] at c1'
      clear hi hv h hB hw1 hR hid hx c1 hx2 hlb hnb hle hn hL hk
      go_enter Try.func37, Try.ntmps37
      go_wp2_with fail
      rw [← HW1.out]
      go_quiet (first | (go_at_call 68; with_reducible exact Calls.quiet_of_same (HV.out _)) | (go_at_call 57; with_reducible exact Calls.quiet_of_same (HLB.out _)) | (go_at_call 58; with_reducible exact Calls.quiet_of_same (HNB.out _)))
      go_wp2_with fail
      refine bodyPost_ret (by simp [results, Try.results37, go_sem, x0, x1, x2, x3]) rfl (HR.out _ ?_)
      exact ((((HBD.out _).setCell (Nat.le_refl _) _).setCell (Nat.le_refl _) _).setCell (Nat.le_refl _) _).setCell (Nat.le_refl _) _
    · rw [hi, hit] at HR
      obtain ⟨g, eA, _, hce⟩ := own_itm hx2 futA_size hjl
      subst eA
      have hg : g < w.heap.size := h.lt g (h.rS _ (List.mem_of_getElem? hx) g rfl).1
      have HLB2 := Lib.hid (fun w' => refLabel_any id w' hid)
      have HNB2 := Lib.hid (fun w' => refNumber_any id w' hid)
      rw [hlb] at HLB2
      rw [hnb] at HNB2
      obtain ⟨x, hxx⟩ : ∃ x, Ls[k][j] = x := ⟨_, rfl⟩
      rw [hxx] at hce HR
      have y0 : w1.cell? ⟨g, j * 4, none⟩ = some (.int .i64 x.lb) := (B1.out.cell (p := ⟨g, j * 4, none⟩) hg).trans (hce 0 _ rfl)
      have y1 : w1.cell? ⟨g, j * 4 + 1, none⟩ = some (.int .i64 x.st) := (B1.out.cell (p := ⟨g, j * 4 + 1, none⟩) hg).trans (hce 1 _ rfl)
      have y2 : w1.cell? ⟨g, j * 4 + 2, none⟩ = some (.int .i32 x.v) := (B1.out.cell (p := ⟨g, j * 4 + 2, none⟩) hg).trans (hce 2 _ rfl)
      have y3 : w1.cell? ⟨g, j * 4 + 3, none⟩ = some (.int .i64 x.code) := (B1.out.cell (p := ⟨g, j * 4 + 3, none⟩) hg).trans (hce 3 _ rfl)
      have hjn : j < n := by omega
      have i2 : (0 : Int) ≤ (j : Int) ∧ (j : Int) < n := by omega
      have z1 : decide (n ≤ j) = false := by simp; omega
      have z2 : decide ((n : Int) ≤ (j : Int)) = false := by simp; omega
      rw [hn] at c1'
      unfold futA at HR
      clear hi hit hse hv h hB hw1 hR hid hx c1 hx2 hce hxx hlb hnb hn hL hjl hk
      go_enter Try.func37, Try.ntmps37
      go_wp2_with fail
      rw [← HW1.out]
      go_quiet (first | (go_at_call 68; with_reducible exact Calls.quiet_of_same (HV.out _)) | (go_at_call 57; with_reducible exact Calls.quiet_of_same (HLB.out _)) | (go_at_call 58; with_reducible exact Calls.quiet_of_same (HNB.out _)))
      go_wp2_with fail
      go_region_law
        (first
          | (refine step_go rfl ?_; go_simp; (with_reducible refine (HLB2.out _).mono ?_); rintro e wA ⟨rfl, rfl⟩)
          | (refine step_go rfl ?_; go_simp; (with_reducible refine (HNB2.out _).mono ?_); rintro e wA ⟨rfl, rfl⟩))
      all_goals
        go_wp2_with fail
        refine bodyPost_ret (by simp [results, Try.results37, go_sem, x0, x1, x2, x3]) rfl (HR.out _ ?_)
        (repeat' (first | exact B1.out | refine Below.setCell ?_ ?_ _ | refine below_drewN ?_ _ | refine Below.drew ?_)) <;> simp
/-- What end answers and leaves. -/
def REn (w : World) (S : Nat → Prop) (gs : Nat) (qA : Option Addr) (qc tb : Nat) (vs : List Value) (qs : List Int) (Ls : List (List FutX)) (id : Int) (f : FutX → FutX) (e : Ending) (w' : World) : Prop :=
  e = .returned (.bool (openB Ls id)) ∧ RfoF w' S gs qA qc tb vs qs (endL Ls id f) ∧ Stp S S w w'
theorem REn.more {w w1 w2 : World} {S : Nat → Prop} {gs qc tb : Nat} {qA : Option Addr} {vs : List Value} {qs : List Int} {Ls : List (List FutX)} {id : Int} {f : FutX → FutX} {e : Ending} (h : REn w S gs qA qc tb vs qs Ls id f e w1) (hb : Below w1.heap.size w1 w2) : REn w S gs qA qc tb vs qs Ls id f e w2 :=
  ⟨h.1, h.2.1.below hb, h.2.2.trans (Stp.of_below hb h.2.1.lt)⟩
def endF (s v c : Int) (x : FutX) : FutX := ⟨x.lb, s, v, c⟩
set_option maxRecDepth 100000 in
set_option maxHeartbeats 8000000 in
theorem rEnd_any (h : RfoF w S gs qA qc tb vs qs Ls) (hB : Bnd qs Ls) (id s v cd : Int) (hid : -2147483648 ≤ id ∧ id ≤ 2147483647) :
    Calls Try.prog 65 #[.pointer (some ⟨gs, 0, none⟩), .int .i32 id, .int .i64 s, .int .i32 v, .int .i64 cd] w (REn w S gs qA qc tb vs qs Ls id (endF s v cd)) := by
  have H := Lib.hid h
  have HG := Lib.hid (rGetF_any h hB id hid)
  unfold GotF at HG
  have HNO : Hid (openB Ls id = false → ∀ w', Below w.heap.size w w' → REn w S gs qA qc tb vs qs Ls id (endF s v cd) (.returned (.bool false)) w') := Lib.hid fun hno w' hb =>
    ⟨by rw [hno], by rw [endL_no hno]; exact H.out.below hb, Stp.of_below hb H.out.lt⟩
  have HOB : Hid (openB Ls id = (isIn Ls id && (itmZ Ls id zF).st == 0)) := Lib.hid rfl
  rcases isIn_cases Ls id hB.n with ⟨_, hi⟩ | ⟨k, hlb, hk, j, hnb, hj, _, ⟨_, hi⟩ | ⟨hjl, hi, hit, hse⟩⟩
  iterate 2
    have HF := Lib.hid (HNO.out (by rw [HOB.out, hi]; rfl))
    rw [hi] at HG
    obtain ⟨x, hx⟩ : ∃ x, itmZ Ls id zF = x := ⟨_, rfl⟩
    rw [hx] at HG
    unfold futA at HG
    clear hi hx h hB hid HNO HOB
    go_enter Try.func65, Try.ntmps65
    go_wp2_with fail
    refine HG.out.mono ?_
    rintro e w1 ⟨rfl, hb⟩
    have HB1 := Lib.hid hb
    clear hb
    go_wp2_with fail
    go_ret
    exact HF.out _ (HB1.out.alloc HB1.out.size _)
  · obtain ⟨A, c, hx, c1, hx2⟩ := h.row_at hk
    obtain ⟨g, eA, _, hce⟩ := own_itm hx2 futA_size hjl
    subst eA
    rw [hi, hit] at HG HOB
    by_cases hst : Ls[k][j].st = 0
    · have hop : openB Ls id = true := by rw [HOB.out, hst]; rfl
      have hgS := (h.rS _ (List.mem_of_getElem? hx) g rfl).1
      have hg : g < w.heap.size := h.lt g hgS
      have HALL : Hid (∀ w', Below w.heap.size w w' → REn w S gs qA qc tb vs qs Ls id (endF s v cd) (.returned (.bool true)) ((((w'.setCell ⟨g, j * 4, none⟩ (.int .i64 Ls[k][j].lb)).setCell ⟨g, j * 4 + 1, none⟩ (.int .i64 s)).setCell ⟨g, j * 4 + 2, none⟩ (.int .i32 v)).setCell ⟨g, j * 4 + 3, none⟩ (.int .i64 cd))) := Lib.hid fun w' hb => by
        have h0 := H.out.below hb
        have hA := h0.set hk hjl (i := 0) (by omega) hx (u := .int .i64 Ls[k][j].lb) (x' := Ls[k][j]) rfl
        have hs1 : Ls.set k (Ls[k].set j Ls[k][j]) = Ls := by simp
        rw [hs1] at hA
        have hC := hA.set hk hjl (i := 1) (by omega) hx (u := .int .i64 s) (x' := { Ls[k][j] with st := s }) rfl
        have hk2 : k < (Ls.set k (Ls[k].set j { Ls[k][j] with st := s })).length := by simpa using hk
        have hj2 : j < (Ls.set k (Ls[k].set j { Ls[k][j] with st := s }))[k].length := by simpa using hjl
        have hD := hC.set hk2 hj2 (i := 2) (by omega) hx (u := .int .i32 v) (x' := { Ls[k][j] with st := s, v := v }) (by simp [futA])
        have hs2 : (Ls.set k (Ls[k].set j { Ls[k][j] with st := s })).set k ((Ls.set k (Ls[k].set j { Ls[k][j] with st := s }))[k].set j { Ls[k][j] with st := s, v := v }) = Ls.set k (Ls[k].set j { Ls[k][j] with st := s, v := v }) := by simp
        rw [hs2] at hD
        have hk3 : k < (Ls.set k (Ls[k].set j { Ls[k][j] with st := s, v := v })).length := by simpa using hk
        have hj3 : j < (Ls.set k (Ls[k].set j { Ls[k][j] with st := s, v := v }))[k].length := by simpa using hjl
        have hE := hD.set hk3 hj3 (i := 3) (by omega) hx (u := .int .i64 cd) (x' := endF s v cd Ls[k][j]) (by simp [futA, endF])
        have hs3 : (Ls.set k (Ls[k].set j { Ls[k][j] with st := s, v := v })).set k ((Ls.set k (Ls[k].set j { Ls[k][j] with st := s, v := v }))[k].set j (endF s v cd Ls[k][j])) = Ls.set k (Ls[k].set j (endF s v cd Ls[k][j])) := by simp
        rw [hs3] at hE
        refine ⟨by rw [hop], by rw [endL_yes hop, hse]; exact hE, ⟨?_, fun _ _ h => h, fun i hi => ?_⟩⟩
        · exact ((((Frm.of_below (S := S) hb).then (Frm.setCell (p := ⟨g, j * 4, none⟩) hgS _)).then (Frm.setCell (p := ⟨g, j * 4 + 1, none⟩) hgS _)).then (Frm.setCell (p := ⟨g, j * 4 + 2, none⟩) hgS _)).then (Frm.setCell (p := ⟨g, j * 4 + 3, none⟩) hgS _)
        · have := H.out.lt i hi
          have := hb.size
          simp [World.setCell]; omega
      have HLB2 := Lib.hid (fun w' => refLabel_any id w' hid)
      have HNB2 := Lib.hid (fun w' => refNumber_any id w' hid)
      rw [hlb] at HLB2
      rw [hnb] at HNB2
      have hgs := h.lt gs h.inS.1
      have htb := h.lt tb h.inS.2
      have HC0 := Lib.hid (show w.cell? ⟨gs, 1, none⟩ = some (.slice (some ⟨tb, 0, none⟩) Ls.length Ls.length) from cell_blk h.blk 1)
      have fzz : ∀ i, w.frozen? ⟨g, i, none⟩ = false := fun i => by
        rcases hx2.2 with ⟨e, _⟩ | ⟨g', _, _, e, _, hg', _⟩
        · cases e
        · have e1 : g = g' := by injection e with e; injection e with e; injection e
          subst e1; exact frozen_blk hg' _
      have HFZ := Lib.hid fzz
      have HCE := Lib.hid hce
      have HC1 := Lib.hid c1
      obtain ⟨x, hxx⟩ : ∃ x, Ls[k][j] = x := ⟨_, rfl⟩
      rw [hxx] at HG hst HALL HCE
      have z1 : (x.st != 0) = false := by rw [hst]; rfl
      obtain ⟨n, hn⟩ : ∃ n, Ls[k].length = n := ⟨_, rfl⟩
      obtain ⟨L, hL⟩ : ∃ L, Ls.length = L := ⟨_, rfl⟩
      have hkL : k < L := by omega
      have hjn : j < n := by omega
      have i1 : (0 : Int) ≤ (k : Int) ∧ (k : Int) < L := by omega
      have i2 : (0 : Int) ≤ (j : Int) ∧ (j : Int) < n := by omega
      rw [hn] at HC1
      rw [hL] at HC0
      unfold futA at HG HCE
      clear hi hit hse hx c1 hx2 hce h hB hid HNO HOB hop hgS hlb hnb hxx hn hL fzz hst hjl hk
      go_enter Try.func65, Try.ntmps65
      go_wp2_with fail
      refine HG.out.mono ?_
      rintro e w1 ⟨rfl, hb⟩
      have HB1 := Lib.hid hb
      have c0 : w1.cell? ⟨gs, 1, none⟩ = _ := (hb.cell (p := ⟨gs, 1, none⟩) hgs).trans HC0.out
      have c1 : w1.cell? ⟨tb, k, none⟩ = _ := (hb.cell (p := ⟨tb, k, none⟩) htb).trans HC1.out
      have y0 : w1.cell? ⟨g, j * 4, none⟩ = some (.int .i64 x.lb) := (hb.cell (p := ⟨g, j * 4, none⟩) hg).trans (HCE.out 0 _ rfl)
      have y1 : w1.cell? ⟨g, j * 4 + 1, none⟩ = some (.int .i64 x.st) := (hb.cell (p := ⟨g, j * 4 + 1, none⟩) hg).trans (HCE.out 1 _ rfl)
      have y2 : w1.cell? ⟨g, j * 4 + 2, none⟩ = some (.int .i32 x.v) := (hb.cell (p := ⟨g, j * 4 + 2, none⟩) hg).trans (HCE.out 2 _ rfl)
      have y3 : w1.cell? ⟨g, j * 4 + 3, none⟩ = some (.int .i64 x.code) := (hb.cell (p := ⟨g, j * 4 + 3, none⟩) hg).trans (HCE.out 3 _ rfl)
      have f0 : w1.frozen? ⟨g, j * 4, none⟩ = false := (hb.frozen (p := ⟨g, j * 4, none⟩) hg).trans (HFZ.out _)
      have f1 : w1.frozen? ⟨g, j * 4 + 1, none⟩ = false := (hb.frozen (p := ⟨g, j * 4 + 1, none⟩) hg).trans (HFZ.out _)
      have f2 : w1.frozen? ⟨g, j * 4 + 2, none⟩ = false := (hb.frozen (p := ⟨g, j * 4 + 2, none⟩) hg).trans (HFZ.out _)
      have f3 : w1.frozen? ⟨g, j * 4 + 3, none⟩ = false := (hb.frozen (p := ⟨g, j * 4 + 3, none⟩) hg).trans (HFZ.out _)
      have hsz := hb.size
      have l1 : gs < w1.heap.size := by omega
      have l2 : tb < w1.heap.size := by omega
      have l3 : g < w1.heap.size := by omega
      clear hb
      go_wp2_with fail
      go_region_law
        (first
          | (refine step_go rfl ?_; go_simp; (with_reducible refine (HLB2.out _).mono ?_); rintro e wA ⟨rfl, rfl⟩)
          | (refine step_go rfl ?_; go_simp; (with_reducible refine (HNB2.out _).mono ?_); rintro e wA ⟨rfl, rfl⟩))
      all_goals
        go_wp2_with fail
        go_ret
        refine REn.more (HALL.out w1 HB1.out) ?_
        exact (below_alloc _ _).drew
    · have HF := Lib.hid (HNO.out (by rw [HOB.out]; simpa using hst))
      have z1 : (Ls[k][j].st != 0) = true := by simpa using hst
      obtain ⟨x, hxx⟩ : ∃ x, Ls[k][j] = x := ⟨_, rfl⟩
      rw [hxx] at HG z1
      unfold futA at HG
      clear hi hit hse hx c1 hx2 hce h hB hid HNO HOB hst hxx hjl hk
      go_enter Try.func65, Try.ntmps65
      go_wp2_with fail
      refine HG.out.mono ?_
      rintro e w1 ⟨rfl, hb⟩
      have HB1 := Lib.hid hb
      clear hb
      go_wp2_with fail
      go_ret
      exact HF.out _ (HB1.out.alloc HB1.out.size _)
end

end Go.Proofs.Ytboelofkbhgmfaa
