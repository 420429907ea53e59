/- Package quota at api.Future: New, Count, has, quota, Make, Find, Get. (Drawn by gen/mk12.py.) -/
import Derived.Test.YtboelofkbhgmfaaTyp12
import Derived.Test.YtboelofkbhgmfaaApq
import Derived.Deep.QuietTactic
import Derived.BigQuiet
namespace Go.Proofs.Ytboelofkbhgmfaa
set_option maxRecDepth 100000
open Go.RowKit

theorem inf_F : (Try.prog.info? 64).map (fun i => (i.zero, i.size, i.bytes)) = some (some (.agg #[.int .i64 0, .int .i64 0, .int .i32 0, .int .i64 0]), 4, 32) := by kernel_rfl
theorem inf_rowF : (Try.prog.info? 75).map (fun i => (i.zero, i.size, i.bytes)) = some (some (.slice none 0 0), 1, 24) := by kernel_rfl
/-- The program's store of them. -/
abbrev StoF (w : World) (S : Nat → Prop) (gs : Nat) (qA : Option Addr) (qc tb : Nat) (vs : List Value) (qs : List Int) (Ls : List (List FutX)) : Prop :=
  StoK futA w S 138 64 75 4 gs qA qc tb vs qs Ls
def StoFM (w : World) (l : List Int) (e : Ending) (w' : World) : Prop :=
  ∃ gs qA qc tb vs, e = .returned (.pointer (some ⟨gs, 0, none⟩)) ∧ StoF w' (fun b => w.heap.size ≤ b ∧ b < w'.heap.size) gs qA qc tb vs (quotasZ l) (List.replicate (min l.length 16) []) ∧ Below w.heap.size w w'
def NwFK (w wr : World) (n k : Nat) (l : List Int) (i : Value) : Prop := ∃ (A : Option Addr) (c : Nat), i = .int .i64 k ∧ wr.heap[w.heap.size + 1]? = some (.cells #[.slice A k c, .slice (some ⟨w.heap.size, 0, none⟩) n n] 138 (0, 0)) ∧
  wr.heap[w.heap.size]? = some (.cells (nilR n).toArray 75 (0, 0)) ∧ OwnI64 wr (w.heap.size + 2) (.slice A k c) ((l.take k).map clampZ) ∧ Below w.heap.size w wr

set_option maxRecDepth 100000 in
set_option maxHeartbeats 4000000 in
theorem newStoF_any (v : Value) (l : List Int) (w : World) (h : NumV w w.heap.size v l) (hn : l.length ≤ 1000) :
    Calls Try.prog 61 #[v] w (StoFM w l) := by
  obtain ⟨A, c, rfl, hc, hl⟩ := h
  have HL := Lib.hid hl; clear hl
  obtain ⟨n, hnn⟩ : ∃ n, min l.length 16 = n := ⟨_, rfl⟩
  have HMK := Lib.hid (fun w => run_make_nil Try.underlying68 inf_rowF (by decide) w n (by omega))
  obtain ⟨N, hN⟩ : ∃ N, l.length = N := ⟨_, rfl⟩
  have HN := Lib.hid hN
  rw [hN] at hc hn hnn ⊢
  have e1 : (if (16 : Int) < (N : Int) then (16 : Int) else (N : Int)) = (n : Int) := by split <;> omega
  have HNN := Lib.hid hnn
  have hnl : n ≤ N := by omega
  have hn16 : n ≤ 16 := by omega
  clear hN hnn
  have hmk := HMK.out
  go_enter Try.func61, Try.ntmps61
  go_wp2_with fail
  clear hmk
  go_loopw [19] (fun i wr => ∃ k : Nat, k ≤ n ∧ NwFK w wr n k l i) (fun i _ => n - (intOf i).toNat)
  case atStart => exact ⟨0, Nat.zero_le _, none, 0, rfl, heapNewS (by simp), heapOldS (heap_alloc_new _ _), OwnI64.nil _ _, ((below_alloc w _).alloc (by simp) _)⟩
  case round =>
    obtain ⟨k, hk, A1, c1, rfl, hblk, htbl, hown, hbel⟩ := hrel
    have HO := Lib.hid hown; have HT := Lib.hid htbl; have HB := Lib.hid hbel; have HK := Lib.hid hblk
    have s0 := cell_blk hblk 0
    have f0 := frozen_blk hblk 0
    have hsz : w.heap.size + 1 < wr.heap.size := (Array.getElem?_eq_some_iff.1 hblk).1
    clear hown htbl hbel hblk
    have hlen : ((l.take k).map clampZ).length = k := by rw [List.length_map, List.length_take]; have := HN.out; omega
    have HLEN := Lib.hid hlen; clear hlen
    by_cases hkn : k < n
    · have hkl : k < l.length := by rw [HN.out]; omega
      obtain ⟨b, off, rfl, hb, d0⟩ := lie_int HL.out hkl
      have d1 : wr.cell? ⟨b, off + k, none⟩ = some (.int .i64 l[k]) := by rw [HB.out.cell (p := ⟨b, off + k, none⟩) hb, d0]
      have HTK := Lib.hid (List.take_succ_eq_append_getElem hkl)
      clear d0
      generalize l[k] = q at *
      obtain ⟨m1, h1⟩ : ∃ m1, (if q < 0 then (0 : Int) else q) = m1 := ⟨_, rfl⟩
      obtain ⟨m2, h2⟩ : ∃ m2, (if 4096 < m1 then (4096 : Int) else m1) = m2 := ⟨_, rfl⟩
      have HC : Hid (clampZ q = m2) := Lib.hid (by unfold clampZ; rw [← h2, ← h1]; split <;> split <;> omega)
      have hO2 := HO.out
      unfold OwnI64 at hO2
      rw [HLEN.out] at hO2
      have HO2 := Lib.hid hO2; clear hO2
      have i1 : (0 : Int) ≤ (k : Int) ∧ (k : Int) < n := by omega
      go_wp2_with (at_builtin; go_must (refine wpList_append_new 22 3 (.int .i64 0) 1 8 Try.underlying22 inf_int rfl (by decide) (by decide) rfl (.tmp 27) (.tmp 31) rfl (w.heap.size + 2) _ _ _ _ [.int .i64 m2] rfl rfl HO2.out rfl rfl ?c1 ?c2 ?c3 ?_))
      case c1 => intro u hu; obtain rfl : u = .int .i64 m2 := by simpa using hu
                 rfl
      case c2 => omega
      case c3 => omega
      intro v3 w3 ho3 hg3 _
      rw [← List.map_take] at ho3
      have k3 := (hg3.block (w.heap.size + 1) (by omega) (fun e => by have := (HO2.out.lt _ e.symm).1; omega)).trans HK.out
      have t3 := (hg3.block w.heap.size (by omega) (fun e => by have := (HO2.out.lt _ e.symm).1; omega)).trans HT.out
      have b3 : Below w.heap.size w w3 := HB.out.grown hg3 HB.out.size (fun j hj => by have := (HO2.out.lt _ hj).1; omega)
      obtain ⟨g3, p3, rfl⟩ := own_succ ho3
      have z0 := cell_blk k3 0
      have z1 := frozen_blk k3 0
      have z2 := (Array.getElem?_eq_some_iff.1 k3).1
      have K3 := Lib.hid k3; have T3 := Lib.hid t3; have B3 := Lib.hid b3
      have O3 : Hid (OwnI64 w3 (w.heap.size + 2) (.slice (some ⟨g3, 0, none⟩) (k + 1) p3) ((l.take (k + 1)).map clampZ)) := Lib.hid (OwnI64.snoc (x := m2) (l := (l.take k).map clampZ) (by rw [HLEN.out]) ho3 (by rw [HTK.out, List.map_append, List.map_cons, List.map_nil, HC.out]))
      clear k3 t3 b3 ho3 hg3
      go_wp2_with fail
      go_roundw
      case rel =>
        refine ⟨k + 1, by omega, _, _, by go_num, by have := set_blk K3.out 0 (.slice (some ⟨g3, 0, none⟩) (k + 1) p3); simpa using this, ?_, ?_, ?_⟩
        · exact (Below.heap_setCell _ _ _ _ (by show w.heap.size ≠ w.heap.size + 1; omega)).trans T3.out
        · exact ownsRow_setCell_below O3.out (by show w.heap.size + 1 < w.heap.size + 2; omega) _
        · exact B3.out.setCell (by show w.heap.size ≤ w.heap.size + 1; omega) _
      case measure => simp [intOf]; omega
    · obtain rfl : k = n := by omega
      have HQ : Hid ((l.take k).map clampZ = quotasZ l) := Lib.hid (by
        unfold quotasZ
        have e := HNN.out
        have e2 := HN.out
        congr 1
        rcases (by omega : k = 16 ∨ k = N) with e3 | e3
        · rw [e3]
        · rw [List.take_of_length_le (by omega), List.take_of_length_le (by omega)])
      rw [HQ.out] at HO
      go_wp2_with fail
      go_ret
      have HM : k = min l.length 16 := by rw [HN.out, HNN.out]
      refine ⟨w.heap.size + 1, A1, c1, w.heap.size, nilR k, rfl, ?_, HB.out⟩
      rw [← HM]
      exact sto_new futA_size HM HK.out HT.out HO.out

section
variable {w : World} {S : Nat → Prop} {gs qc tb : Nat} {qA : Option Addr} {vs : List Value} {qs : List Int} {Ls : List (List FutX)}
set_option maxHeartbeats 1000000 in
theorem hasF_any (h : StoF w S gs qA qc tb vs qs Ls) (p : Int) : Calls Try.prog 82 #[.pointer (some ⟨gs, 0, none⟩), .int .i64 p] w fun e w' => e = .returned (.bool (decide (0 ≤ p) && decide (p < (Ls.length : Int)))) ∧ w = w' := by
  have c0 := cell_blk h.blk 0
  have hq := h.qln
  rw [hq] at c0
  clear h hq
  generalize Ls.length = n at *
  by_cases h0 : 0 ≤ p
  · rw [decide_eq_true h0, Bool.true_and]
    go_enter Try.func82, Try.ntmps82
    go_wp2_with fail
    go_ret
    exact ⟨rfl, rfl⟩
  · rw [decide_eq_false h0, Bool.false_and]
    have h0' : decide (0 ≤ p) = false := decide_eq_false h0
    go_enter Try.func82, Try.ntmps82
    go_wp2_with fail
    go_ret
    exact ⟨rfl, rfl⟩
set_option maxHeartbeats 1000000 in
theorem countF_any (h : StoF w S gs qA qc tb vs qs Ls) (p : Int) : Calls Try.prog 69 #[.pointer (some ⟨gs, 0, none⟩), .int .i64 p] w fun e w' => e = .returned (.int .i64 (cntZ Ls p : Nat)) ∧ w = w' := by
  have HH := Lib.hid (hasF_any h p)
  by_cases h0 : p < 0 ∨ (Ls.length : Int) ≤ p
  · have e : (decide (0 ≤ p) && decide (p < (Ls.length : Int))) = false := by rcases h0 with h0 | h0 <;> simp <;> omega
    rw [e] at HH
    have z : cntZ Ls p = 0 := by rcases h0 with h0 | h0; exact cntZ_lo h0; exact cntZ_hi h0
    rw [z]
    clear e z h0 h
    go_enter Try.func69, Try.ntmps69
    go_wp2_with fail
    refine HH.out.mono ?_
    rintro e w' ⟨rfl, rfl⟩
    go_wp2_with fail
    go_ret
    exact ⟨rfl, rfl⟩
  · obtain ⟨k, rfl⟩ : ∃ k : Nat, p = k := ⟨p.toNat, by omega⟩
    have hk : k < Ls.length := by omega
    have e : (decide (0 ≤ (k : Int)) && decide ((k : Int) < (Ls.length : Int))) = true := by simp; omega
    rw [e] at HH
    rw [cntZ_in hk]
    obtain ⟨A, c, hx1, c1, hx2⟩ := h.row_at hk
    clear hx1 hx2
    have c0 := cell_blk h.blk 1
    generalize Ls[k].length = m at *
    clear e h h0
    generalize Ls.length = n at *
    have i1 : (0 : Int) ≤ (k : Int) ∧ (k : Int) < n := by omega
    go_enter Try.func69, Try.ntmps69
    go_wp2_with fail
    refine HH.out.mono ?_
    rintro e w' ⟨rfl, rfl⟩
    go_wp2_with fail
    go_ret
    exact ⟨rfl, rfl⟩
set_option maxHeartbeats 1000000 in
theorem quotaF_any (h : StoF w S gs qA qc tb vs qs Ls) (p : Int) : Calls Try.prog 80 #[.pointer (some ⟨gs, 0, none⟩), .int .i64 p] w fun e w' => e = .returned (.int .i64 (quoZ qs p)) ∧ w = w' := by
  have HH := Lib.hid (hasF_any h p)
  by_cases h0 : p < 0 ∨ (Ls.length : Int) ≤ p
  · have e : (decide (0 ≤ p) && decide (p < (Ls.length : Int))) = false := by rcases h0 with h0 | h0 <;> simp <;> omega
    rw [e] at HH
    rw [quoZ_out (by rw [h.qln]; exact h0)]
    clear e h0 h
    go_enter Try.func80, Try.ntmps80
    go_wp2_with fail
    refine HH.out.mono ?_
    rintro e w' ⟨rfl, rfl⟩
    go_wp2_with fail
    go_ret
    exact ⟨rfl, rfl⟩
  · obtain ⟨k, rfl⟩ : ∃ k : Nat, p = k := ⟨p.toNat, by omega⟩
    have hk : k < Ls.length := by omega
    have hkq : k < qs.length := by rw [h.qln]; exact hk
    have e : (decide (0 ≤ (k : Int)) && decide ((k : Int) < (Ls.length : Int))) = true := by simp; omega
    rw [e] at HH
    rw [quoZ_in hkq]
    obtain ⟨b, off, rfl, _, c1⟩ := lie_int h.qv hkq
    have c0 := cell_blk h.blk 0
    have hql := h.qln
    rw [hql] at c0
    generalize qs[k] = q at *
    clear e h h0 hkq hql
    generalize Ls.length = n at *
    have i1 : (0 : Int) ≤ (k : Int) ∧ (k : Int) < n := by omega
    go_enter Try.func80, Try.ntmps80
    go_wp2_with fail
    refine HH.out.mono ?_
    rintro e w' ⟨rfl, rfl⟩
    go_wp2_with fail
    go_ret
    exact ⟨rfl, rfl⟩
/-- What Make answers and leaves. -/
def MkF (w : World) (S : Nat → Prop) (gs : Nat) (qA : Option Addr) (qc tb : Nat) (qs : List Int) (Ls : List (List FutX)) (p : Int) (x : FutX) (e : Ending) (w' : World) : Prop :=
  e = .returned (.tuple #[.int .i32 (mkId qs Ls p), .bool (mkB qs Ls p)]) ∧ ∃ S' vs', StoF w' S' gs qA qc tb vs' qs (mkL qs Ls p x) ∧ Stp S S' w w'
theorem sto_twoF (h : StoF w S gs qA qc tb vs qs Ls) : ∀ i, S i → i < w.heap.size := h.lt

set_option maxRecDepth 100000 in
set_option maxHeartbeats 8000000 in
theorem makeF_any (h : StoF w S gs qA qc tb vs qs Ls) (hB : Bnd qs Ls) (p : Int) (x : FutX) (hp : -9223372036854775808 ≤ p ∧ p ≤ 9223372036854775807) :
    Calls Try.prog 62 #[.pointer (some ⟨gs, 0, none⟩), .int .i64 p, .agg (futA x)] w (MkF w S gs qA qc tb qs Ls p x) := by
  have H := Lib.hid h
  have HBB := Lib.hid hB
  have HCNT := Lib.hid (fun w' (hb : Below w.heap.size w w') => countF_any (h.below hb) p)
  have HQUO := Lib.hid (fun w' (hb : Below w.heap.size w w') => quotaF_any (h.below hb) p)
  clear hB
  cases hm : mkB qs Ls p with
  | false =>
    have hle : quoZ qs p ≤ (cntZ Ls p : Int) ∧ cntZ Ls p ≤ 4096 := by
      by_cases h0 : p < 0 ∨ (Ls.length : Int) ≤ p
      · rw [quoZ_out (by rw [HBB.out.q]; exact h0)]
        have z : cntZ Ls p = 0 := by rcases h0 with h0 | h0; exact cntZ_lo h0; exact cntZ_hi h0
        omega
      · obtain ⟨k, rfl⟩ : ∃ k : Nat, p = k := ⟨p.toNat, by omega⟩
        have hk : k < Ls.length := by omega
        rw [mkB_in hk HBB.out.q] at hm
        rw [quoZ_in (by rw [HBB.out.q]; exact hk), cntZ_in hk]
        have := HBB.out.le k hk
        simp at hm
        exact ⟨by omega, this⟩
    have hS := H.out.lt
    have HS := Lib.hid (show MkF w S gs qA qc tb qs Ls p x (.returned (.tuple #[.int .i32 0, .bool false])) (w.alloc (.cells (futA x) 64)) from
      ⟨by rw [mkId_no hm, hm], S, vs, by rw [mkL_no hm]; exact H.out.below (below_alloc w _), Stp.of_below (below_alloc w _) hS⟩)
    obtain ⟨q, hq⟩ : ∃ q, quoZ qs p = q := ⟨_, rfl⟩
    obtain ⟨n, hn⟩ : ∃ n, cntZ Ls p = n := ⟨_, rfl⟩
    rw [hq] at HQUO hle
    rw [hn] at HCNT hle
    obtain ⟨h1, h2⟩ := hle
    clear hq hn hm h hS
    unfold futA at HS
    cases hob : ofB p (n : Int) with
    | false =>
      have HOF := Lib.hid (fun w' => of_any p (n : Int) w')
      rw [hob] at HOF
      generalize ofZ p (n : Int) = z at *
      clear hob
      unfold futA
      go_enter Try.func62, Try.ntmps62
      go_wp2_with fail
      refine (HCNT.out _ (below_alloc _ _)).mono ?_
      rintro e w' ⟨rfl, rfl⟩
      go_wp2_with fail
      refine (HOF.out _).mono ?_
      rintro e w' ⟨rfl, rfl⟩
      go_wp2_with fail
      go_ret2
      exact HS.out
    | true =>
      have HOF := Lib.hid (fun w' => of_any p (n : Int) w')
      rw [hob] at HOF
      generalize ofZ p (n : Int) = z at *
      clear hob
      unfold futA
      go_enter Try.func62, Try.ntmps62
      go_wp2_with fail
      refine (HCNT.out _ (below_alloc _ _)).mono ?_
      rintro e w' ⟨rfl, rfl⟩
      go_wp2_with fail
      refine (HOF.out _).mono ?_
      rintro e w' ⟨rfl, rfl⟩
      go_wp2_with fail
      refine (HQUO.out _ (below_alloc _ _)).mono ?_
      rintro e w' ⟨rfl, rfl⟩
      go_wp2_with fail
      go_ret2
      exact HS.out
  | true =>
    obtain ⟨k, rfl, hk, hlt⟩ := mkB_yes hm HBB.out.q
    have hk16 : k < 16 := by have := HBB.out.n; omega
    have hid : mkId qs Ls (k : Int) = (k : Int) * 65536 + (Ls[k].length : Nat) := mkId_in hm hk
    have hl4 := HBB.out.le k hk
    obtain ⟨A, c, hv, c1, ho⟩ : ∃ A c, vs[k]? = some (.slice A Ls[k].length c) ∧ w.cell? ⟨tb, k, none⟩ = some (.slice A Ls[k].length c) ∧ w.ownsRow 0 64 4 (.slice A Ls[k].length c) Ls[k].length (rowE futA Ls[k]) := h.row_at hk
    have c0 := cell_blk h.blk 1
    rw [cntZ_in hk] at HCNT
    rw [quoZ_in (by rw [HBB.out.q]; exact hk)] at HQUO
    have hof : ofB (k : Int) (Ls[k].length : Int) = true := ofB_yes ⟨by omega, by omega, by omega, by omega⟩
    have hoz : ofZ (k : Int) (Ls[k].length : Int) = mkId qs Ls (k : Int) := by unfold ofZ; rw [if_pos hof, hid]
    have HOF := Lib.hid (fun w' => of_any (k : Int) (Ls[k].length : Int) w')
    rw [hof, hoz] at HOF
    have hx := futA_size x
    obtain ⟨w1, hw1⟩ : ∃ w1, w1 = w.alloc (.cells (futA x) 64) := ⟨_, rfl⟩
    have B1 : Hid (Below w.heap.size w w1) := Lib.hid (by rw [hw1]; exact below_alloc w _)
    have H1 := Lib.hid (h.below B1.out)
    have HMADE := Lib.hid (fun (v' : Value) (w2 : World) ho hg hat => show MkF w S gs qA qc tb qs Ls (k : Int) x (.returned (.tuple #[.int .i32 (mkId qs Ls (k : Int)), .bool true])) (w2.setCell ⟨tb, k, none⟩ v') from by
      obtain ⟨S', h1, h2⟩ := H1.out.made hk hv (x := x) (w1 := w2) (v' := v') ho hg hat
      exact ⟨by rw [hm], S', _, by rw [mkL_in hm hk]; exact h1, (Stp.of_below B1.out H.out.lt).trans h2⟩)
    have HX : Hid (w1.heap[w.heap.size]? = some (.cells (futA x) 64 (0, 0))) := Lib.hid (by rw [hw1]; exact heap_alloc_new w _)
    have ho1 : w1.ownsRow 0 64 4 (.slice A Ls[k].length c) Ls[k].length (rowE futA Ls[k]) := by rw [hw1]; exact ho.alloc _
    have O1 := Lib.hid ho1
    have d1 : w1.cell? ⟨tb, k, none⟩ = some (.slice A Ls[k].length c) := by rw [B1.out.cell (p := ⟨tb, k, none⟩) (H.out.lt tb H.out.inS.2), c1]
    have d0 : w1.cell? ⟨gs, 1, none⟩ = _ := (B1.out.cell (p := ⟨gs, 1, none⟩) (H.out.lt gs H.out.inS.1)).trans c0
    have HW1 := Lib.hid hw1
    have d0' : w1.cell? ⟨gs, 1, none⟩ = some (.slice (some ⟨tb, 0, none⟩) Ls.length Ls.length) := d0
    have ft : w1.frozen? ⟨tb, k, none⟩ = false := frozen_blk H1.out.tbl k
    have G1 : Hid (gs < w1.heap.size ∧ tb < w1.heap.size ∧ tb ≠ w.heap.size ∧ (Value.slice A Ls[k].length c).ownBlock ≠ some gs ∧ (Value.slice A Ls[k].length c).ownBlock ≠ some tb) := Lib.hid (by
      have e1 := H1.out.lt gs H1.out.inS.1
      have e2 := H1.out.lt tb H1.out.inS.2
      have e3 := H.out.lt tb H.out.inS.2
      exact ⟨e1, e2, by omega, fun e => (H.out.rS _ (List.mem_of_getElem? hv) gs e).2.1 rfl, fun e => (H.out.rS _ (List.mem_of_getElem? hv) tb e).2.2.1 rfl⟩)
    have HONE : Hid (∀ u ∈ (futA x).toList, u.oneCell' = true) := Lib.hid (futA_one x)
    obtain ⟨n, hn⟩ : ∃ n, Ls[k].length = n := ⟨_, rfl⟩
    obtain ⟨id, hi⟩ : ∃ id, mkId qs Ls (k : Int) = id := ⟨_, rfl⟩
    have hkq : k < qs.length := by rw [HBB.out.q]; exact hk
    obtain ⟨q, hq⟩ : ∃ q, qs[k] = q := ⟨_, rfl⟩
    obtain ⟨xs, hxs⟩ : ∃ xs, rowE futA Ls[k] = xs := ⟨_, rfl⟩
    rw [hn] at HCNT HOF d1 O1 HMADE hlt hl4 G1
    rw [hi] at HOF HMADE
    rw [hxs] at HMADE O1
    rw [hq] at HQUO hlt
    obtain ⟨L, hL⟩ : ∃ L, Ls.length = L := ⟨_, rfl⟩
    rw [hL] at d0'
    have hkL : k < L := by omega
    have i1 : (0 : Int) ≤ (k : Int) ∧ (k : Int) < L := by omega
    clear d0 ho1 hw1 ho hv hof hoz c0 c1 hm hid h hn hi hq hkq hL hxs hk hkL
    unfold futA at HX HW1
    unfold futA
    go_enter Try.func62, Try.ntmps62
    go_wp2_with fail
    rw [← HW1.out]
    refine (HCNT.out _ B1.out).mono ?_
    rintro e w' ⟨rfl, rfl⟩
    go_wp2_with fail
    refine (HOF.out _).mono ?_
    rintro e w' ⟨rfl, rfl⟩
    go_wp2_with fail
    refine (HQUO.out _ B1.out).mono ?_
    rintro e w' ⟨rfl, rfl⟩
    go_wp2_with fail
    clear HCNT HOF HQUO
    have x0 := cell_blk HX.out 0
    have x1 := cell_blk HX.out 1
    have x2 := cell_blk HX.out 2
    have x3 := cell_blk HX.out 3
    have g1 := G1.out.1
    have g2 := G1.out.2.1
    go_region_law
      (first
        | (refine step_append_itm 75 64 (.agg #[.int .i64 0, .int .i64 0, .int .i32 0, .int .i64 0]) 4 32 Try.underlying75 inf_F rfl (by decide) (by decide) rfl (.tmp 40) (.tmp 42) rfl 0 _ n xs rfl ?_ _ (futA x) rfl ?_ rfl HONE.out ?_ (Nat.zero_le _) ?_
           · exact O1.out.alloc _
           · exact heap_alloc_new _ _
           · omega
           intro vQ wQ oQ gQ bQ
           obtain ⟨g3, p3, rfl⟩ := own_succ oQ
           have GQ := grown_of (below_alloc _ _).drew gQ
           have cQ := grown_cell (Below.refl _ _) GQ d0' G1.out.1 G1.out.2.2.2.1
           have tQ := grown_cell (Below.refl _ _) GQ d1 G1.out.2.1 G1.out.2.2.2.2
           have fQ := grown_frozen (Below.refl _ _) GQ ft G1.out.2.1 G1.out.2.2.2.2))
    all_goals
      have HF := Lib.hid (HMADE.out _ _ oQ GQ (by rcases bQ with e | e
                                                  · exact .inl e
                                                  · exact .inr ⟨_, e, by simp⟩))
      clear oQ gQ bQ GQ cQ tQ fQ
      go_wp2_with fail
      go_ret2
      exact HF.out
end

end Go.Proofs.Ytboelofkbhgmfaa
