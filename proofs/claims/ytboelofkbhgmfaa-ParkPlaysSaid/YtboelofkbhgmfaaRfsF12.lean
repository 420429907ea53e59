/- The reference's store of confidant/api.Future: New, Count, Make. (Drawn by gen/mkrf12.py.) -/
import Derived.Test.YtboelofkbhgmfaaQugF12
import Derived.Test.YtboelofkbhgmfaaRfq12
import Derived.Deep.QuietTactic
import Derived.BigQuiet
namespace Go.Proofs.Ytboelofkbhgmfaa
set_option maxRecDepth 100000
open Go.RowKit

/-- The reference's store. -/
abbrev RfoF (w : World) (S : Nat → Prop) (gs : Nat) (qA : Option Addr) (qc tb : Nat) (vs : List Value) (qs : List Int) (Ls : List (List FutX)) : Prop :=
  StoK futA w S 71 64 75 4 gs qA qc tb vs qs Ls
/-- The reference's store, wherever its parts lie. -/
def RfFV (w : World) (S : Nat → Prop) (gs : Nat) (qs : List Int) (Ls : List (List FutX)) : Prop := Bnd qs Ls ∧ ∃ qA qc tb vs, RfoF w S gs qA qc tb vs qs Ls
section
variable {w w' : World} {S T : Nat → Prop} {gs : Nat} {qs : List Int} {Ls : List (List FutX)}
theorem RfFV.lt (h : RfFV w S gs qs Ls) : ∀ i, S i → i < w.heap.size := by obtain ⟨_, _, _, _, _, h⟩ := h; exact h.lt
theorem RfFV.keep (h : RfFV w S gs qs Ls) (hf : Frm T w w') (hd : ∀ i, S i → ¬ T i) : RfFV w' S gs qs Ls := by obtain ⟨hB, qA, qc, tb, vs, h⟩ := h; exact ⟨hB, qA, qc, tb, vs, h.keep hf hd⟩
theorem RfFV.below (h : RfFV w S gs qs Ls) (hb : Below w.heap.size w w') : RfFV w' S gs qs Ls := by obtain ⟨hB, qA, qc, tb, vs, h⟩ := h; exact ⟨hB, qA, qc, tb, vs, h.below hb⟩
end
def RfFM (w : World) (l : List Int) (e : Ending) (w' : World) : Prop := ∃ gs, e = .returned (.pointer (some ⟨gs, 0, none⟩)) ∧ RfFV w' (fun b => w.heap.size ≤ b ∧ b < w'.heap.size) gs (quotasZ l) (List.replicate (min l.length 16) []) ∧ Below w.heap.size w w'
set_option maxRecDepth 100000 in
set_option maxHeartbeats 4000000 in
theorem rNewF_any (v : Value) (l : List Int) (w : World) (h : NumV w w.heap.size v l) (hn : l.length ≤ 1000) : Calls Try.prog 29 #[v] w (RfFM w l) := by
  obtain ⟨n, hnn⟩ : ∃ n, min l.length 16 = n := ⟨_, rfl⟩
  have HNN := Lib.hid hnn
  have hql : (quotasZ l).length = n := by simp [quotasZ]; omega
  have HQL := Lib.hid hql
  have HQ := Lib.hid (refQuotas_any v l w h hn)
  have HMK := Lib.hid (fun w => run_make_nil Try.underlying68 inf_rowF (by decide) w n (by omega))
  obtain ⟨A, c, rfl, _, _⟩ := h
  have hn16 : n ≤ 16 := by omega
  clear hnn hql hn
  have hmk := HMK.out
  go_enter Try.func29, Try.ntmps29
  go_wp2_with fail
  refine HQ.out.mono ?_
  rintro e w1 ⟨⟨v1, rfl, ho⟩, hb⟩
  obtain ⟨A1, c1, rfl⟩ := ho.shapeN
  rw [HQL.out]
  have ho' : OwnI64 w1 w.heap.size (.slice A1 n c1) (quotasZ l) := by rw [← HQL.out]; exact ho
  have HS := Lib.hid (sto_new2 (enc := futA) (t := 71) (e := 64) (er := 75) (sz := 4) futA_size HNN.out.symm ho' hb.size rfl)
  have HB := Lib.hid hb
  clear ho ho' hb
  go_wp2_with fail
  go_ret
  have HSZ := HB.out.size
  refine ⟨w1.heap.size + 1, by simp, ⟨Bnd.new l, A1, c1, w1.heap.size, nilR n, ?_⟩, (HB.out.alloc HSZ _).alloc (by simp; omega) _⟩
  rw [HNN.out]
  exact HS.out
section
variable {w : World} {S : Nat → Prop} {gs qc tb : Nat} {qA : Option Addr} {vs : List Value} {qs : List Int} {Ls : List (List FutX)}
set_option maxHeartbeats 1000000 in
theorem rCountF_any (h : RfoF w S gs qA qc tb vs qs Ls) (p : Int) : Calls Try.prog 39 #[.pointer (some ⟨gs, 0, none⟩), .int .i64 p] w fun e w' => e = .returned (.int .i64 (cntZ Ls p : Nat)) ∧ w = w' := by
  have c0 : w.cell? ⟨gs, 1, none⟩ = some (.slice (some ⟨tb, 0, none⟩) Ls.length Ls.length) := cell_blk h.blk 1
  by_cases h0 : p < 0
  · rw [cntZ_lo h0]
    have z1 : decide (p < 0) = true := by simpa using h0
    clear h
    go_enter Try.func39, Try.ntmps39
    go_wp2_with fail
    go_ret
    exact ⟨rfl, rfl⟩
  have z1 : decide (p < 0) = false := by simpa using h0
  by_cases h1 : (Ls.length : Int) ≤ p
  · rw [cntZ_hi h1]
    have z2 : decide ((Ls.length : Int) ≤ p) = true := by simpa using h1
    clear h
    generalize Ls.length = n at *
    go_enter Try.func39, Try.ntmps39
    go_wp2_with fail
    go_ret
    exact ⟨rfl, rfl⟩
  · obtain ⟨k, rfl⟩ : ∃ k : Nat, p = k := ⟨p.toNat, by omega⟩
    have hk : k < Ls.length := by omega
    rw [cntZ_in hk]
    obtain ⟨A, c, hx1, c1, hx2⟩ := h.row_at hk
    clear hx1 hx2
    have z2 : decide ((Ls.length : Int) ≤ (k : Int)) = false := by simp; omega
    have z3 : decide (Ls.length ≤ k) = false := by simp; omega
    generalize Ls[k].length = m at *
    clear h h0 h1
    generalize Ls.length = n at *
    have i1 : (0 : Int) ≤ (k : Int) ∧ (k : Int) < n := by omega
    go_enter Try.func39, Try.ntmps39
    go_wp2_with fail
    go_ret
    exact ⟨rfl, rfl⟩
/-- What Make answers and leaves. -/
def RMkF (w : World) (S : Nat → Prop) (gs : Nat) (qA : Option Addr) (qc tb : Nat) (qs : List Int) (Ls : List (List FutX)) (p : Int) (x : FutX) (e : Ending) (w' : World) : Prop :=
  e = .returned (.tuple #[.int .i32 (mkId qs Ls p), .bool (mkB qs Ls p)]) ∧ ∃ S' vs', RfoF w' S' gs qA qc tb vs' qs (mkL qs Ls p x) ∧ Stp S S' w w'
set_option maxRecDepth 100000 in
set_option maxHeartbeats 8000000 in
theorem rMakeF_any (h : RfoF w S gs qA qc tb vs qs Ls) (hB : Bnd qs Ls) (p : Int) (lb : Int) (hp : -9223372036854775808 ≤ p ∧ p ≤ 9223372036854775807) :
    Calls Try.prog 31 #[.pointer (some ⟨gs, 0, none⟩), .int .i64 p, .int .i64 lb] w (RMkF w S gs qA qc tb qs Ls p ⟨lb, 0, 0, 0⟩) := by
  have H := Lib.hid h
  have HBB := Lib.hid hB
  clear hB
  have HS : Hid (mkB qs Ls p = false → ∀ m, RMkF w S gs qA qc tb qs Ls p ⟨lb, 0, 0, 0⟩ (.returned (.tuple #[.int .i32 0, .bool false])) (w.drewN m)) := Lib.hid fun hm m =>
    ⟨by rw [mkId_no hm, hm], S, vs, by rw [mkL_no hm]; exact H.out.below (below_drewN (Below.refl _ _) m), Stp.of_below (below_drewN (Below.refl _ _) m) H.out.lt⟩
  have c0 : w.cell? ⟨gs, 1, none⟩ = some (.slice (some ⟨tb, 0, none⟩) Ls.length Ls.length) := cell_blk h.blk 1
  by_cases h0 : p < 0
  · have z1 : decide (p < 0) = true := by simpa using h0
    have HF := Lib.hid (HS.out (mkB_out (.inl h0)))
    clear h HS
    generalize Ls.length = n at *
    go_enter Try.func31, Try.ntmps31
    go_wp2_with fail
    go_quiet (fail)
    go_wp2_with fail
    go_ret2
    exact HF.out _
  have z1 : decide (p < 0) = false := by simpa using h0
  by_cases h1 : (Ls.length : Int) ≤ p
  · have z2 : decide ((Ls.length : Int) ≤ p) = true := by simpa using h1
    have HF := Lib.hid (HS.out (mkB_out (.inr h1)))
    clear h HS
    generalize Ls.length = n at *
    go_enter Try.func31, Try.ntmps31
    go_wp2_with fail
    go_quiet (fail)
    go_wp2_with fail
    go_ret2
    exact HF.out _
  obtain ⟨k, rfl⟩ : ∃ k : Nat, p = k := ⟨p.toNat, by omega⟩
  have hk : k < Ls.length := by omega
  have hkq : k < qs.length := by rw [HBB.out.q]; exact hk
  have hmk := mkB_in hk HBB.out.q
  obtain ⟨A, c, hv, c1, ho⟩ : ∃ A c, vs[k]? = some (.slice A Ls[k].length c) ∧ w.cell? ⟨tb, k, none⟩ = some (.slice A Ls[k].length c) ∧ w.ownsRow 0 64 4 (.slice A Ls[k].length c) Ls[k].length (rowE futA Ls[k]) := h.row_at hk
  obtain ⟨qb, qo, eqA, hqb, cq⟩ := lie_int h.qv hkq
  have c2 : w.cell? ⟨gs, 0, none⟩ = some (.slice qA qs.length qc) := cell_blk h.blk 0
  have hqi : qs[k] ∈ qs := List.getElem_mem hkq
  have hqbd := HBB.out.hi _ hqi
  have hln : Ls[k].length ≤ 4096 := HBB.out.le k hk
  obtain ⟨q, hq⟩ : ∃ q, qs[k] = q := ⟨_, rfl⟩
  obtain ⟨n, hn⟩ : ∃ n, Ls[k].length = n := ⟨_, rfl⟩
  rw [hq] at hmk cq hqbd
  rw [hn] at hmk c1 hln
  rw [HBB.out.q] at c2
  rw [eqA] at c2
  have z2 : decide ((Ls.length : Int) ≤ (k : Int)) = false := by simp; omega
  have z3 : decide (Ls.length ≤ k) = false := by simp; omega
  by_cases hlt : (n : Int) < q
  · have hm : mkB qs Ls (k : Int) = true := by rw [hmk]; simpa using hlt
    have z4 : decide (q ≤ (n : Int)) = false := by simp; omega
    have hk16 : k < 16 := by have := HBB.out.n; omega
    have hid : mkId qs Ls (k : Int) = (k : Int) * 65536 + (Ls[k].length : Nat) := mkId_in hm hk
    have hof : ofB (k : Int) (Ls[k].length : Int) = true := ofB_yes ⟨by omega, by omega, by omega, by omega⟩
    have hoz : ofZ (k : Int) (Ls[k].length : Int) = mkId qs Ls (k : Int) := by unfold ofZ; rw [if_pos hof, hid]
    have HOF := Lib.hid (fun w' => refOf_any (k : Int) (Ls[k].length : Int) w')
    rw [hof, hoz, hn] at HOF
    have HMADE := Lib.hid (fun (w1 : World) (hb : Below w.heap.size w w1) (v' : Value) (w2 : World) ho hg hat => show RMkF w S gs qA qc tb qs Ls (k : Int) ⟨lb, 0, 0, 0⟩ (.returned (.tuple #[.int .i32 (mkId qs Ls (k : Int)), .bool true])) (w2.setCell ⟨tb, k, none⟩ v') from by
      obtain ⟨S', h1, h2⟩ := (H.out.below hb).made hk hv (x := ⟨lb, 0, 0, 0⟩) (w1 := w2) (v' := v') ho hg hat
      exact ⟨by rw [hm], S', _, by rw [mkL_in hm hk]; exact h1, (Stp.of_below hb H.out.lt).trans h2⟩)
    rw [hn] at HMADE
    have G1 : Hid (gs < w.heap.size ∧ tb < w.heap.size ∧ (Value.slice A n c).ownBlock ≠ some gs ∧ (Value.slice A n c).ownBlock ≠ some tb) := Lib.hid (by
      have e1 := H.out.lt gs H.out.inS.1
      have e2 := H.out.lt tb H.out.inS.2
      rw [hn] at hv
      exact ⟨e1, e2, fun e => (H.out.rS _ (List.mem_of_getElem? hv) gs e).2.1 rfl, fun e => (H.out.rS _ (List.mem_of_getElem? hv) tb e).2.2.1 rfl⟩)
    have ft : w.frozen? ⟨tb, k, none⟩ = false := frozen_blk H.out.tbl k
    rw [hn] at ho
    obtain ⟨xs, hxs⟩ : ∃ xs, rowE futA Ls[k] = xs := ⟨_, rfl⟩
    rw [hxs] at HMADE ho
    have HO := Lib.hid ho
    obtain ⟨id, hi⟩ : ∃ id, mkId qs Ls (k : Int) = id := ⟨_, rfl⟩
    rw [hi] at HOF HMADE
    have HONE : Hid (∀ u ∈ (futA ⟨lb, 0, 0, 0⟩).toList, u.oneCell' = true) := Lib.hid (futA_one ⟨lb, 0, 0, 0⟩)
    obtain ⟨L, hL⟩ : ∃ L, Ls.length = L := ⟨_, rfl⟩
    rw [hL] at c0 c2 z2 z3
    have hkL : k < L := by omega
    have i1 : (0 : Int) ≤ (k : Int) ∧ (k : Int) < L := by omega
    clear h ho hv hof hoz hm hid hmk hn hi hq hqi hkq hk hxs hL HS h0 h1 eqA
    go_enter Try.func31, Try.ntmps31
    go_wp2_with fail
    go_quiet (fail)
    go_wp2_with fail
    refine (HOF.out _).mono ?_
    rintro e w' ⟨rfl, rfl⟩
    go_wp2_with fail
    clear HOF z1 z2 z3 z4 cq c2
    generalize hw1 : World.drewN w _ = w1
    have hb1 : Below w.heap.size w w1 := by rw [← hw1]; exact below_drewN (Below.refl _ _) _
    have B1 := Lib.hid hb1
    have d0 : w1.cell? ⟨gs, 1, none⟩ = some (.slice (some ⟨tb, 0, none⟩) L L) := (hb1.cell (p := ⟨gs, 1, none⟩) G1.out.1).trans c0
    have d1 : w1.cell? ⟨tb, k, none⟩ = some (.slice A n c) := (hb1.cell (p := ⟨tb, k, none⟩) G1.out.2.1).trans c1
    have f1 : w1.frozen? ⟨tb, k, none⟩ = false := (hb1.frozen (p := ⟨tb, k, none⟩) G1.out.2.1).trans ft
    have O1 : Hid (w1.ownsRow 0 64 4 (.slice A n c) n xs) := Lib.hid (ownsRow_keep HO.out fun b e => hb1.block b (World.ownsRow.lt HO.out b e).2)
    have g1 : gs < w1.heap.size := Nat.lt_of_lt_of_le G1.out.1 hb1.size
    have g2 : tb < w1.heap.size := Nat.lt_of_lt_of_le G1.out.2.1 hb1.size
    clear hw1 hb1 c0 c1 ft
    go_region_law
      (first
        | (refine step_append_itm 75 64 (.agg #[.int .i64 0, .int .i64 0, .int .i32 0, .int .i64 0]) 4 32 Try.underlying75 inf_F rfl (by decide) (by decide) rfl (.tmp 63) (.tmp 66) rfl 0 _ n xs rfl ?_ _ (futA ⟨lb, 0, 0, 0⟩) rfl ?_ rfl HONE.out ?_ (Nat.zero_le _) ?_
           · exact O1.out.alloc _
           · exact heap_alloc_new _ _
           · omega
           intro vQ wQ oQ gQ bQ
           obtain ⟨g3, p3, rfl⟩ := own_succ oQ
           have GQ := grown_of (below_alloc _ _).drew gQ
           have cQ := grown_cell (Below.refl _ _) GQ d0 g1 G1.out.2.2.1
           have tQ := grown_cell (Below.refl _ _) GQ d1 g2 G1.out.2.2.2
           have fQ := grown_frozen (Below.refl _ _) GQ f1 g2 G1.out.2.2.2))
    all_goals
      have HF := Lib.hid (HMADE.out w1 B1.out _ _ oQ GQ (by rcases bQ with e | e
                                                            · exact .inl e
                                                            · exact .inr ⟨_, e, by simp⟩))
      clear oQ gQ bQ GQ cQ tQ fQ
      go_wp2_with fail
      go_ret2
      exact HF.out
  · have hm : mkB qs Ls (k : Int) = false := by rw [hmk]; simpa using hlt
    have z4 : decide (q ≤ (n : Int)) = true := by simp; omega
    have HF := Lib.hid (HS.out hm)
    obtain ⟨L, hL⟩ : ∃ L, Ls.length = L := ⟨_, rfl⟩
    rw [hL] at c0 c2 z2 z3
    have hkL : k < L := by omega
    have i1 : (0 : Int) ≤ (k : Int) ∧ (k : Int) < L := by omega
    clear h ho hv hm hmk hn hq hqi hkq hk hL HS h0 h1 eqA
    go_enter Try.func31, Try.ntmps31
    go_wp2_with fail
    go_quiet (fail)
    go_wp2_with fail
    go_ret2
    exact HF.out _
end

end Go.Proofs.Ytboelofkbhgmfaa
