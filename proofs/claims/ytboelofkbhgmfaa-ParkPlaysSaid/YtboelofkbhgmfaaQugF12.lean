/- Package quota at api.Future: Find, Get. (Drawn by gen/mk12.py.) -/
import Derived.Test.YtboelofkbhgmfaaQuoF12
import Derived.Laws.ResultCell
import Derived.Laws.Rows
import Derived.Deep.MidRow
import Derived.Laws.Tables
namespace Go.Proofs.Ytboelofkbhgmfaa
set_option maxRecDepth 100000
open Go.RowKit

section
variable {w : World} {S : Nat → Prop} {gs qc tb : Nat} {qA : Option Addr} {vs : List Value} {qs : List Int} {Ls : List (List FutX)}
/-- What Find answers: nothing, or the place of the thing. -/
def FndF (w : World) (vs : List Value) (Ls : List (List FutX)) (id : Int) (e : Ending) (w' : World) : Prop :=
  ((isIn Ls id = false ∧ e = .returned (.pointer none)) ∨ ∃ k j g c, ∃ (hk : k < Ls.length) (hj : j < Ls[k].length), labelZ id = (k : Int) ∧ numberZ id = (j : Int) ∧ isIn Ls id = true ∧ (∀ d, itmZ Ls id d = Ls[k][j]) ∧ (∀ f, setZ Ls id f = Ls.set k (Ls[k].set j (f Ls[k][j]))) ∧ vs[k]? = some (.slice (some ⟨g, 0, none⟩) Ls[k].length c) ∧ e = .returned (.pointer (some ⟨g, j * 4, none⟩))) ∧ ∃ m, w' = w.drewN m

set_option maxRecDepth 100000 in
set_option maxHeartbeats 4000000 in
theorem findF_any (h : StoF w S gs qA qc tb vs qs Ls) (hB : Bnd qs Ls) (id : Int) (hid : -2147483648 ≤ id ∧ id ≤ 2147483647) :
    Calls Try.prog 81 #[.pointer (some ⟨gs, 0, none⟩), .int .i32 id] w (FndF w vs Ls id) := by
  have HC := Lib.hid (isIn_cases Ls id hB.n)
  have H := Lib.hid h
  have c0 : w.cell? ⟨gs, 1, none⟩ = some (.slice (some ⟨tb, 0, none⟩) Ls.length Ls.length) := cell_blk h.blk 1
  have HV := Lib.hid (fun w' => valid_any id (Ls.length : Int) w' hid)
  have HLB := Lib.hid (fun w' => label_any id w' hid)
  have HNB := Lib.hid (fun w' => number_any id w' hid)
  rcases HC.out with ⟨hv, hi⟩ | ⟨k, hlb, hk, j, hnb, hj, hv, hi⟩
  · rw [hv] at HV
    have HR : Hid (FndF w vs Ls id (.returned (.pointer none)) w) := Lib.hid ⟨.inl ⟨hi, rfl⟩, 0, rfl⟩
    clear hv hi HC HLB HNB h hB H
    generalize Ls.length = L at *
    go_enter Try.func81, Try.ntmps81
    go_wp2_with fail
    refine (HV.out _).mono ?_
    rintro e w' ⟨rfl, rfl⟩
    go_wp2_with fail
    go_ret
    exact HR.out
  · obtain ⟨A, c, hx, c1, hx2⟩ := h.row_at hk
    clear hx2
    rw [hv] at HV
    rw [hlb] at HLB
    rw [hnb] at HNB
    have HR0 : Hid (Ls[k].length ≤ j → ∀ m, FndF w vs Ls id (.returned (.pointer none)) (w.drewN m)) := Lib.hid fun hle m => by
      rcases hi with ⟨_, hi⟩ | ⟨hj2, _⟩
      · exact ⟨.inl ⟨hi, rfl⟩, m, rfl⟩
      · omega
    have HR1 : Hid (∀ g, A = some ⟨g, 0, none⟩ → j < Ls[k].length → ∀ m, FndF w vs Ls id (.returned (.pointer (some ⟨g, j * 4, none⟩))) (w.drewN m)) := Lib.hid fun g hg hlt m => by
      rcases hi with ⟨hle, _⟩ | ⟨hj2, hi, hi2, hi3⟩
      · omega
      · exact ⟨.inr ⟨k, j, g, c, hk, hj2, hlb, hnb, hi, hi2, hi3, by rw [hx, hg], rfl⟩, m, rfl⟩
    have HA : Hid (j < Ls[k].length → ∃ g, A = some ⟨g, 0, none⟩) := Lib.hid fun hlt => by
      have ho := h.row k _ _ hx (List.getElem?_eq_getElem hk)
      obtain ⟨g, e, _⟩ := own_itm ho futA_size hlt
      exact ⟨g, e⟩
    obtain ⟨n, hn⟩ : ∃ n, Ls[k].length = n := ⟨_, rfl⟩
    rw [hn] at c1 HR0 HR1 HA
    obtain ⟨L, hL⟩ : ∃ L, Ls.length = L := ⟨_, rfl⟩
    rw [hL] at c0 HV
    have hkL : k < L := by omega
    have i1 : (0 : Int) ≤ (k : Int) ∧ (k : Int) < L := by omega
    clear hv hi HC h hB H hx hlb hnb hn hL hk hid
    by_cases hlt : j < n
    · have z1 : decide (n ≤ j) = false := by simp; omega
      obtain ⟨g, rfl⟩ := HA.out hlt
      have HF := Lib.hid (HR1.out g rfl hlt)
      have i2 : (0 : Int) ≤ (j : Int) ∧ (j : Int) < n := by omega
      clear HA HR0 HR1
      go_enter Try.func81, Try.ntmps81
      go_wp2_with fail
      refine (HV.out _).mono ?_
      rintro e w' ⟨rfl, rfl⟩
      go_wp2_with fail
      go_quiet (first | (go_at_call 77; exact Calls.quiet_of_same (HLB.out _)) | (go_at_call 78; exact Calls.quiet_of_same (HNB.out _)))
      go_wp2_with fail
      go_ret
      exact HF.out _
    · have z1 : decide (n ≤ j) = true := by simp; omega
      have HF := Lib.hid (HR0.out (by omega))
      clear HA HR0 HR1
      go_enter Try.func81, Try.ntmps81
      go_wp2_with fail
      refine (HV.out _).mono ?_
      rintro e w' ⟨rfl, rfl⟩
      go_wp2_with fail
      go_quiet (first | (go_at_call 77; exact Calls.quiet_of_same (HLB.out _)) | (go_at_call 78; exact Calls.quiet_of_same (HNB.out _)))
      go_wp2_with fail
      go_ret
      exact HF.out _
/-- What Get answers. -/
def GotF (w : World) (Ls : List (List FutX)) (id : Int) (e : Ending) (w' : World) : Prop := e = .returned (.tuple #[.agg (futA (itmZ Ls id zF)), .bool (isIn Ls id)]) ∧ Below w.heap.size w w'
theorem itm_cellsF (h : StoF w S gs qA qc tb vs qs Ls) {k j g n c : Nat} (hk : k < Ls.length) (hj : j < Ls[k].length) (hv : vs[k]? = some (.slice (some ⟨g, 0, none⟩) n c)) :
    g < w.heap.size ∧ w.frozen? ⟨g, 0, none⟩ = false ∧ ∀ i u, (futA Ls[k][j])[i]? = some u → w.cell? ⟨g, j * 4 + i, none⟩ = some u := by
  have ho := h.row k _ _ hv (List.getElem?_eq_getElem hk)
  have hn : n = Ls[k].length := by
    rcases ho.2 with ⟨e, _⟩ | ⟨_, _, _, e, _⟩
    · cases e
    · injection e with _ e _
  subst hn
  obtain ⟨g', e, h1, h2⟩ := own_itm ho futA_size hj
  injection e with e
  injection e with e _
  subst e
  exact ⟨h.lt g (h.rS _ (List.mem_of_getElem? hv) g rfl).1, h1, h2⟩

set_option maxRecDepth 100000 in
set_option maxHeartbeats 4000000 in
theorem getF_any (h : StoF w S gs qA qc tb vs qs Ls) (hB : Bnd qs Ls) (id : Int) (hid : -2147483648 ≤ id ∧ id ≤ 2147483647) :
    Calls Try.prog 67 #[.pointer (some ⟨gs, 0, none⟩), .int .i32 id] w (GotF w Ls id) := by
  have HF := Lib.hid (fun w' (hb : Below w.heap.size w w') => findF_any (h.below hb) hB id hid)
  have HCE := Lib.hid (fun w' (hb : Below w.heap.size w w') {k j g n c : Nat} (hk : k < Ls.length) (hj : j < Ls[k].length) hv => itm_cellsF (h.below hb) (g := g) (n := n) (c := c) hk hj hv)
  have hR : ∀ w', Below w.heap.size w w' → GotF w Ls id (.returned (.tuple #[.agg (futA (itmZ Ls id zF)), .bool (isIn Ls id)])) w' := fun w' hb => ⟨rfl, hb⟩
  have HR := Lib.hid hR
  clear h hB hid hR
  go_enter Try.func67, Try.ntmps67
  go_wp2_with fail
  refine (HF.out _ (below_alloc _ _)).mono ?_
  rintro e w' ⟨hc, m, rfl⟩
  rcases hc with ⟨hi, rfl⟩ | ⟨k, j, g, c, hk, hj, h1, h2, hi, hit, hse, hv, rfl⟩
  · rw [hi, itmZ_no hi] at HR
    clear hi HCE HF
    go_wp2_with fail
    unfold futA zF at HR
    refine bodyPost_ret (by simp [results, Try.results67, go_sem]) rfl (HR.out _ ?_)
    (repeat' (first | exact Below.refl _ _ | refine Below.setCell ?_ ?_ _ | refine Below.alloc ?_ ?_ _ | refine below_drewN ?_ _ | refine Below.drew ?_)) <;> simp [World.setCell]
  · obtain ⟨l1, l2, l3⟩ := HCE.out w (Below.refl _ _) hk hj hv
    rw [hi] at HR
    rw [hit] at HR
    clear h1 h2 hi hit hse hv HF HCE
    generalize Ls[k][j] = x at *
    unfold futA at l3 HR
    have y0 : w.cell? ⟨g, j * 4, none⟩ = some (.int .i64 x.lb) := l3 0 _ rfl
    have y1 : w.cell? ⟨g, j * 4 + 1, none⟩ = some (.int .i64 x.st) := l3 1 _ rfl
    have y2 : w.cell? ⟨g, j * 4 + 2, none⟩ = some (.int .i32 x.v) := l3 2 _ rfl
    have y3 : w.cell? ⟨g, j * 4 + 3, none⟩ = some (.int .i64 x.code) := l3 3 _ rfl
    clear l3
    go_wp2_with fail
    refine bodyPost_ret (by simp [results, Try.results67, go_sem]) rfl (HR.out _ ?_)
    (repeat' (first | exact Below.refl _ _ | refine Below.setCell ?_ ?_ _ | refine Below.alloc ?_ ?_ _ | refine below_drewN ?_ _ | refine Below.drew ?_)) <;> simp [World.setCell]
end

end Go.Proofs.Ytboelofkbhgmfaa
