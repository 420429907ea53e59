/- The walk of follow: it makes the flow of a function in memory. -/
import Derived.Test.YtjnlgmjcabbaaaaOkf8
namespace Go.Proofs.Ytjnlgmjcabbaaaa
set_option maxRecDepth 100000
open Go.RowKit

def falses (y : Nat) : Array Value := madeCells #[.bool false] y
theorem falses_at {y j : Nat} (h : j < y) : (falses y)[j]? = some (.bool false) := by simp [falses, madeCells, h, Nat.mod_one]
theorem run_make_bools (w : World) (y : Nat) (hy : y ≤ 1000) :
    (Instr.makeSlice 97 (.int .i64 (y : Int)) (.int .i64 (y : Int))).run Try.prog w = .ok (.slice (some ⟨w.heap.size, 0, none⟩) y y) (w.alloc (.cells (falses y) 4)) := by
  obtain ⟨i0, hi, hz0, hz1, hz2⟩ := info_parts inf_bool
  have h := run_make (w := w) (P := Try.prog) 97 4 i0 (.bool false) Try.underlying97 hi hz0 .i64 .i64 (y : Int) (y : Int) (by omega) (Int.le_refl _) (by rw [hz2]; omega) (by omega)
  rw [h, hz1]
  simp [falses, Value.cells]

/-- The flow in the making: the depths are -1 so far. -/
structure Mk (w : World) (lo g gb n : Nat) (cv dv : Value) (k : Nat) : Prop where
  hd : w.heap[g]? = some (.cells #[cv, dv, .slice (some ⟨gb, 0, none⟩) n n, .slice none 0 0] 101 (0, 0))
  own : w.ownsRow lo 3 1 dv k (i64s (List.replicate k (-1)))
  bad : w.heap[gb]? = some (.cells (falses n) 4 (0, 0))
section
variable {w w' : World} {lo g gb n k : Nat} {cv dv dv' : Value}
theorem Mk.lt (h : Mk w lo g gb n cv dv k) : g < w.heap.size := (Array.getElem?_eq_some_iff.1 h.hd).1
theorem Mk.ne (h : Mk w lo g gb n cv dv k) : dv.ownBlock ≠ some g ∧ dv.ownBlock ≠ some gb := by
  rcases h.own.2 with ⟨rfl, _⟩ | ⟨q, cap, cur, rfl, _, hg, _⟩
  · exact ⟨by simp [Value.ownBlock], by simp [Value.ownBlock]⟩
  · refine ⟨fun e => ?_, fun e => ?_⟩
    · obtain rfl : q = g := by simpa [Value.ownBlock] using e
      have := h.hd; rw [hg] at this; injection this with this; injection this with _ e2; exact absurd e2 (by decide)
    · obtain rfl : q = gb := by simpa [Value.ownBlock] using e
      have := h.bad; rw [hg] at this; injection this with this; injection this with _ e2; exact absurd e2 (by decide)
theorem Mk.gne (h : Mk w lo g gb n cv dv k) : g ≠ gb := fun e => by
  have := h.hd; rw [e, h.bad] at this; injection this with this; injection this with _ e2; exact absurd e2 (by decide)
theorem Mk.grow (h : Mk w lo g gb n cv dv k) (ho : w'.ownsRow lo 3 1 dv' (k + 1) (i64s (List.replicate k (-1)) ++ [.int .i64 (-1)])) (hg : w.grownBy w' dv.ownBlock)
    (hat : dv'.ownBlock = dv.ownBlock ∨ ∃ k, dv'.ownBlock = some k ∧ w.heap.size ≤ k) : Mk (w'.setCell ⟨g, 1, none⟩ dv') lo g gb n cv dv' (k + 1) := by
  have l1 := h.lt
  have l2 := (Array.getElem?_eq_some_iff.1 h.bad).1
  obtain ⟨k1, k2⟩ := h.ne
  have e1 : w'.heap[g]? = _ := (hg.block _ l1 (fun e => k1 e.symm)).trans h.hd
  have a1 : dv'.ownBlock ≠ some g := by
    rcases hat with e | ⟨k, e, hk⟩ <;> rw [e]
    · exact k1
    · intro e; injection e with e; omega
  have e2 : i64s (List.replicate (k + 1) (-1)) = i64s (List.replicate k (-1)) ++ [.int .i64 (-1)] := by rw [List.replicate_succ']; simp [i64s]
  exact ⟨set_blk e1 1 dv', by rw [e2]; exact own_far ho a1, (set_far h.gne.symm).trans ((hg.block _ l2 (fun e => k2 e.symm)).trans h.bad)⟩
theorem Mk.flow (h : Mk w lo g gb n cv dv n) (hn : 0 < n) (hl : lo ≤ g ∧ lo ≤ gb) : ∃ gd cap, FlowM w ⟨lo, g, gb, gd, n, cap, cv⟩ (startF n) := by
  rcases h.own.2 with ⟨_, h0⟩ | ⟨gd, cap, cur, rfl, hb, hg, hc, _, _, ht⟩
  · omega
  · refine ⟨gd, cap, .slice none 0 0, h.hd, ⟨cur, hg, fun k hk => ?_⟩, ⟨_, h.bad, fun k hk => ?_⟩, World.ownsRow_nil w lo _ 1, by simp [Value.ownBlock], ⟨hl.1, hl.2, hb⟩, by simp [startF]⟩
    · have h1 : (i64s (List.replicate n (-1)))[k]? = some (.int .i64 (-1)) := by simp [i64s, hk]
      rw [← ht] at h1
      have h2 : (startF n).D.getD k 0 = -1 := by simp only [startF]; simp [hk]
      rw [h2]
      have h3 : cur.toList[k]? = some (.int .i64 (-1)) := by
        rw [List.getElem?_take] at h1
        split at h1
        · exact h1
        · cases h1
      simpa using h3
    · have h2 : (startF n).Bd.getD k false = false := by simp only [startF]; simp [hk]
      rw [h2]; exact falses_at hk
end
theorem FlowS.work {w : World} {m : Dims} {s : Fl} {wv : Value} (h : FlowS w m s wv) : ∃ A c, wv = .slice A s.K.length c ∧ ∀ i, i < s.K.length → ∃ gw, A = some ⟨gw, 0, none⟩ ∧ w.cell? ⟨gw, i, none⟩ = some (.int .i64 (s.K.getD i 0 : Nat)) := by
  obtain ⟨A, c, rfl, _, _, _, hl, _⟩ := Lies.of_own h.own
  refine ⟨A, c, rfl, fun i hi => ?_⟩
  rcases h.own.2 with ⟨_, h0⟩ | ⟨gw, cap, cur, e, _⟩
  · omega
  · injection e with e1 e2 e3
    subst e1
    obtain ⟨b, off, hA, _, hc⟩ := lie_nat hl hi
    injection hA with hA; injection hA with hA1 hA2
    subst hA1 hA2
    refine ⟨gw, rfl, ?_⟩
    rw [Nat.zero_add] at hc
    rw [hc, List.getD_eq_getElem?_getD, List.getElem?_eq_getElem hi]; rfl

def FollowMade (w : World) (f : CodeL) (cv : Value) (e : Ending) (w' : World) : Prop :=
  ∃ m : Dims, e = .returned (.pointer (some ⟨m.g, 0, none⟩)) ∧ FlowM w' m (followF f) ∧ m.n = f.length ∧ m.cv = cv ∧ Below w.heap.size w w'

theorem cell_heap {w w' : World} {b : Nat} (h : w'.heap[b]? = w.heap[b]?) (o : Nat) : w'.cell? ⟨b, o, none⟩ = w.cell? ⟨b, o, none⟩ := by simp [World.cell?, h]
/-- The list of what an instruction leads to stays, while these are reached one by one. -/
structure R3 (w0 : World) (m : Dims) (L : List Nat) (A : Option Addr) (s3 : Fl) (wv3 : Value) (w : World) : Prop where
  fl : FlowS w m s3 wv3
  li : Lies w w.heap.size A (i64s (nats L))
  ap : ∀ b off, 0 < L.length → A = some ⟨b, off, none⟩ → b < w.heap.size ∧ b ≠ m.g ∧ b ≠ m.gb ∧ b ≠ m.gd ∧ wv3.ownBlock ≠ some b
  b : Below m.lo w0 w
theorem R3.reach {w0 w w' : World} {m : Dims} {L : List Nat} {A : Option Addr} {s3 s' : Fl} {wv3 : Value} {e : Ending} (h : R3 w0 m L A s3 wv3 w) (hr : ReachMade w m s' wv3 e w') : ∃ wv', R3 w0 m L A s' wv' w' := by
  obtain ⟨_, ⟨wv', hf, hat⟩, hb, hk⟩ := hr
  refine ⟨wv', hf, fun hn => ?_, fun b off hl e => ?_, h.b.trans hb⟩
  · obtain ⟨b, off, e, hlt, hc⟩ := h.li hn
    obtain ⟨a1, a2, a3, a4, a5⟩ := h.ap b off (by simpa [i64s, nats] using hn) e
    exact ⟨b, off, e, Nat.lt_of_lt_of_le a1 hb.size, fun j u hu => (cell_heap (hk b a1 a2 a3 a4 a5) _).trans (hc j u hu)⟩
  · obtain ⟨a1, a2, a3, a4, a5⟩ := h.ap b off hl e
    refine ⟨Nat.lt_of_lt_of_le a1 hb.size, a2, a3, a4, ?_⟩
    rcases hat with e1 | ⟨k, e1, hk1⟩ <;> rw [e1]
    · exact a5
    · intro e2; injection e2 with e2; omega
theorem R3.start {w0 w w' : World} {m : Dims} {L : List Nat} {A : Option Addr} {s : Fl} {wv : Value} (h : FlowS w m s wv) (hl : Lies w' w'.heap.size A (i64s (nats L))) (ha : ∀ b off, A = some ⟨b, off, none⟩ → w.heap.size ≤ b) (hb : Below w.heap.size w w') (h0 : Below m.lo w0 w) (hlo : m.lo ≤ w.heap.size) : R3 w0 m L A s wv w' := by
  refine ⟨h.below hb, hl, fun b off hn e => ?_, h0.trans (hb.mono hlo)⟩
  obtain ⟨b', off', e', hlt, _⟩ := hl (by simpa [i64s, nats] using hn)
  rw [e] at e'; injection e' with e'; injection e' with e1 e2; subst e1
  have h1 := ha b off e
  obtain ⟨l1, l2, l3⟩ := h.lt
  refine ⟨hlt, by omega, by omega, by omega, fun e2 => ?_⟩
  have := (h.own.lt b e2).2
  omega

set_option maxRecDepth 100000 in
set_option maxHeartbeats 16000000 in
theorem follow_any (f : CodeL) (v : Value) (w : World) (hv : RowI w w.heap.size v f) (h0 : 0 < f.length) (h512 : f.length ≤ 512) (hL : Leads f) :
    Calls Try.prog 55 #[v] w (FollowMade w f v) := by
  obtain ⟨lo, hlo⟩ : ∃ lo, w.heap.size = lo := ⟨_, rfl⟩
  obtain ⟨g, hg⟩ : ∃ g, lo + 1 = g := ⟨_, rfl⟩
  have hr0 := hv
  obtain ⟨A, c, rfl, hvl, hvi⟩ := hv
  obtain ⟨n, hn⟩ : ∃ n, f.length = n := ⟨_, rfl⟩
  rw [hn] at h0 h512
  have HL := Lib.hid hL; have HN := Lib.hid hn
  have hmk := fun w => run_make_bools w n (by omega)
  obtain ⟨w1, hw1⟩ : ∃ w1, w1 = (w.alloc (.cells (falses n) 4)).alloc (.cells #[.slice A n c, .slice none 0 0, .slice (some ⟨lo, 0, none⟩) n n, .slice none 0 0] 101) := ⟨_, rfl⟩
  have M1 : Hid (Mk w1 lo g lo n (.slice A n c) (.slice none 0 0) 0) := Lib.hid (by
    rw [hw1, ← hg, ← hlo]
    refine ⟨by have := heap_alloc_new (w.alloc (.cells (falses n) 4)) (.cells #[.slice A n c, .slice none 0 0, .slice (some ⟨w.heap.size, 0, none⟩) n n, .slice none 0 0] 101); simpa using this, World.ownsRow_nil _ _ _ 1, ?_⟩
    rw [heap_alloc_old _ _ (by simp)]
    exact heap_alloc_new w _)
  have B1 := Lib.hid (show Below lo w w1 by rw [hw1, ← hlo]; exact (below_alloc _ _).trans ((below_alloc _ _).mono (by simp)))
  rw [hn, hlo] at hr0
  have HR := Lib.hid hr0
  have HLO := Lib.hid hlo; have HG := Lib.hid hg; have H0 := Lib.hid h0; have H5 := Lib.hid h512
  rw [hn]
  clear hr0 hvl hvi hL hn
  go_enter Try.func55, Try.ntmps55
  go_wp2_with fail
  rw [← hw1]
  clear hw1 hmk hlo hg
  go_loopw [18] (fun i wr => ∃ (k : Nat) (dv : Value), k ≤ n ∧ i = .int .i64 k ∧ Mk wr lo g lo n (.slice A n c) dv k ∧ Below lo w wr) (fun i _ => n - (intOf i).toNat)
  case atStart => exact ⟨0, _, Nat.zero_le _, rfl, M1.out, B1.out⟩
  case round =>
    clear M1 B1
    obtain ⟨k, dv, hk, rfl, hm, hb⟩ := hrel
    have HM := Lib.hid hm; have HB := Lib.hid hb; clear hm hb
    by_cases hkn : k < n
    · have c1 : wr.cell? ⟨g, 1, none⟩ = some dv := cell_blk HM.out.hd 1
      have f1 : wr.frozen? ⟨g, 1, none⟩ = false := frozen_blk HM.out.hd 1
      have HLL := Lib.hid (show lo ≤ wr.heap.size by have := HM.out.lt; have := HG.out; omega)
      go_wp2_with (at_builtin; go_must (refine wpList_append_new 39 3 (.int .i64 0) 1 8 Try.underlying39 inf_int rfl (by decide) (by decide) rfl (.tmp 24) (.tmp 25) rfl lo _ _ _ _ [.int .i64 (-1)] rfl rfl HM.out.own rfl rfl ?c1 ?c2 ?c3 ?_))
      case c1 => intro u hu; simp at hu; subst hu; rfl
      case c2 => omega
      case c3 => exact HLL.out
      intro v' w3 ho hg hat
      obtain ⟨gw, cw, rfl⟩ := own_succ ho
      have H3 := Lib.hid (HM.out.grow ho hg hat)
      have hg3 : w3.heap[g]? = _ := (hg.block _ HM.out.lt (fun e => HM.out.ne.1 e.symm)).trans HM.out.hd
      have c3' : w3.cell? ⟨g, 1, none⟩ = some dv := cell_blk hg3 1
      have f3' : w3.frozen? ⟨g, 1, none⟩ = false := frozen_blk hg3 1
      have hb3 : Below lo wr w3 := (Below.refl _ _).grown hg HLL.out (fun k hk => (HM.out.own.lt k hk).1)
      have BB3 := Lib.hid ((HB.out.trans hb3).trans (below_set (w := w3) (i := 1) (show lo ≤ g by have := HG.out; omega) (.slice (some ⟨gw, 0, none⟩) (k + 1) cw)))
      clear ho hg hat hg3 hb3 c1 f1
      go_wp2_with fail
      go_roundw
      case rel => exact ⟨k + 1, _, by omega, by go_num, H3.out, BB3.out⟩
      case measure => simp [intOf]; omega
    · obtain rfl : n = k := by omega
      obtain ⟨gd, cap, hfm⟩ := HM.out.flow H0.out ⟨by have := HG.out; omega, Nat.le_refl _⟩
      obtain ⟨m, hm⟩ : ∃ m : Dims, m = ⟨lo, g, lo, gd, n, cap, .slice A n c⟩ := ⟨_, rfl⟩
      rw [← hm] at hfm
      have mg : m.g = g := by rw [hm]
      have mlo : m.lo = lo := by rw [hm]
      have mn : m.n = n := by rw [hm]
      have mcv : m.cv = .slice A n c := by rw [hm]
      have HMN := Lib.hid mn; have HMG := Lib.hid mg; have HMC := Lib.hid mcv; have HML := Lib.hid mlo
      obtain ⟨wv, hfs⟩ := hfm
      have HFS := Lib.hid hfs
      have HReach : Hid (∀ (s : Fl) (wv : Value) (fr t : Nat) (d : Int) (w : World), FlowS w m s wv → RowI w lo (.slice A n c) f → Okf n s → fr < n → t ≤ n →
          Calls Try.prog 79 #[.pointer (some ⟨g, 0, none⟩), .int .i64 fr, .int .i64 t, .int .i64 d] w (ReachMade w m (reachF n s fr t d) wv)) := Lib.hid (by
        intro s wv fr t d w h1 h2 h3 h4 h5
        have h := reach_any f m s wv fr t d w h1 (by rw [mlo, mcv]; exact h2) (by rw [HN.out, mn]) (by rw [mn]; exact h4) (by rw [mn]; exact h5) (by rw [mn]; have := H5.out; omega) (by have := h3.le; have := H5.out; omega)
        rw [mn, mg] at h
        exact h)
      have HAfter : Hid (∀ (s : Fl) (wv : Value) (k : Nat) (w : World), FlowS w m s wv → RowI w lo (.slice A n c) f → Okf n s → k < n →
          Calls Try.prog 80 #[.pointer (some ⟨g, 0, none⟩), .int .i64 k] w fun e w' => e = .returned (.tuple #[.int .i64 (depthZ f s k), .bool (fitsB f s k)]) ∧ Below w.heap.size w w') := Lib.hid (by
        intro s wv k w h1 h2 h3 h4
        have h := after_any f m s k w ⟨wv, h1⟩ (by rw [mlo, mcv]; exact h2) (by rw [HN.out, mn]) (by rw [mn]; exact h4) (by rw [mn]; have := H5.out; omega) (by have := h3.at k; omega)
        rw [mg] at h
        exact h)
      have HNext : Hid (∀ (s : Fl) (wv : Value) (k : Nat) (w : World), FlowS w m s wv → RowI w lo (.slice A n c) f → k < n →
          Calls Try.prog 81 #[.pointer (some ⟨g, 0, none⟩), .int .i64 k] w (NextMade w (nextL f k))) := Lib.hid (by
        intro s wv k w h1 h2 h4
        have h := next_any f m s k w ⟨wv, h1⟩ (by rw [mlo, mcv]; exact h2) (by rw [HN.out, mn]) (by rw [mn]; exact h4) (by rw [mn]; have := H5.out; omega) (fun hj => (HL.out k (by rw [HN.out]; exact h4) hj).1)
        rw [mg] at h
        exact h)
      have HNL : Hid (∀ k, k < n → ∀ t ∈ nextL f k, t ≤ n) := Lib.hid (by
        intro k hk t ht
        have := next_le HL.out (k := k) (by rw [HN.out]; exact hk) t ht
        rw [HN.out] at this; exact this)
      have HFF : Hid (followF f = runF f n 0 (reachF n (startF n) 0 0 0)) := Lib.hid (by unfold followF; rw [HN.out])
      have HRow : Hid (∀ w', Below lo w w' → RowI w' lo (.slice A n c) f) := Lib.hid (fun w' hb => HR.out.below hb)
      obtain ⟨Ff, hFf⟩ : ∃ Ff, followF f = Ff := ⟨_, rfl⟩
      have HFE := Lib.hid hFf
      rw [hFf] at HFF
      clear hm HM hfs mg mlo mn mcv hFf hk hkn
      go_wp2_with fail
      refine (HReach.out (startF n) wv 0 0 0 wr HFS.out (HRow.out _ HB.out) (Okf.start n) H0.out (Nat.zero_le _)).mono ?_
      rintro e w2 ⟨rfl, ⟨wv2, hf2, _⟩, hb2, _⟩
      have HF2 := Lib.hid hf2
      have HB2 := Lib.hid (show Below lo w w2 by have := HML.out; rw [this] at hb2; exact HB.out.trans hb2)
      have HO2 := Lib.hid ((Okf.start n).reach 0 0 0 (Nat.zero_le _) ⟨Int.le_refl _, by omega⟩)
      clear hf2 hb2 HB HFS
      go_wp2_with fail
      go_loopw [4] (fun i wr => ∃ (j : Nat) (s : Fl) (wv : Value), i = .int .i64 j ∧ j ≤ n ∧ FlowS wr m s wv ∧ Okf n s ∧ runF f (n - j) j s = Ff ∧ Below lo w wr) (fun i _ => n - (intOf i).toNat)
      case atStart => exact ⟨0, _, _, rfl, Nat.zero_le _, HF2.out, HO2.out, HFF.out.symm, HB2.out⟩
      case round =>
        clear HF2 HO2 HFF HB2
        obtain ⟨j, s, wv, rfl, hj, hf, ho, hrun, hb⟩ := hrel
        have HF := Lib.hid hf; have HO := Lib.hid ho; have HRUN := Lib.hid hrun; have HB := Lib.hid hb
        obtain ⟨AW, cW, hwv, hwc⟩ := hf.work
        have hle := ho.le
        have c3 := hf.c3
        rw [hwv, HMG.out] at c3
        obtain ⟨q, hq⟩ : ∃ q, s.K.length = q := ⟨_, rfl⟩
        rw [hq] at c3 hwc hle
        have HQ := Lib.hid hq; have HWV := Lib.hid hwv
        clear hf ho hrun hb hq hwv
        by_cases hjq : j < q
        · obtain ⟨gw, rfl, hcell⟩ := hwc j hjq
          obtain ⟨k, hk⟩ : ∃ k, s.K.getD j 0 = k := ⟨_, rfl⟩
          rw [hk] at hcell
          have hkn : k < n := by
            rw [← hk, List.getD_eq_getElem?_getD, List.getElem?_eq_getElem (by rw [HQ.out]; exact hjq)]
            exact HO.out.kl _ (List.getElem_mem _)
          have HRUN2 : Hid (runF f (n - (j + 1)) (j + 1) (stepF f s k) = Ff) := Lib.hid (by
            rw [← HRUN.out, show n - j = (n - (j + 1)) + 1 from by omega, run_step _ _ _ _ (by rw [HQ.out]; exact hjq), hk])
          clear hwc hk HRUN
          go_wp2_with fail
          refine (HAfter.out s wv k wr HF.out (HRow.out _ HB.out) HO.out hkn).mono ?_
          rintro e w3 ⟨rfl, hb3⟩
          have HF3 := Lib.hid (HF.out.below hb3)
          have HB3 := Lib.hid (HB.out.trans (hb3.mono (show lo ≤ wr.heap.size by have := HF.out.lt; have := HF.out.lg; have := HML.out; omega)))
          obtain ⟨d, hd⟩ : ∃ d, depthZ f s k = d := ⟨_, rfl⟩
          obtain ⟨z, hz⟩ : ∃ z, fitsB f s k = z := ⟨_, rfl⟩
          rw [hd, hz]
          have hstep : stepF f s k = if z then (nextL f k).foldl (fun r t => reachF n r k t d) s else { s with Bd := s.Bd.set k true } := by unfold stepF; rw [hz, hd, HN.out]
          have HSTEP := Lib.hid hstep
          have HD := Lib.hid hd; have HZ := Lib.hid hz
          clear hb3 hd hz c3 hcell HF HB hstep
          cases z with
          | false =>
            have HS : Hid (stepF f s k = { s with Bd := s.Bd.set k true }) := Lib.hid (by rw [HSTEP.out]; rfl)
            have c2 := HF3.out.c2
            have cb := HF3.out.cb (show k < m.n by rw [HMN.out]; exact hkn)
            have fb := HF3.out.fb k
            rw [HMG.out, HMN.out] at c2
            have HF4 := Lib.hid (HF3.out.setB (show k < m.n by rw [HMN.out]; exact hkn))
            have HB4 := Lib.hid (HB3.out.trans (below_set (w := w3) (i := k) (show lo ≤ m.gb by have := HF3.out.lg; have := HML.out; omega) (.bool true)))
            clear HF3 HB3
            go_wp2_with fail
            go_roundw
            case rel => exact ⟨j + 1, _, wv, by go_num, by omega, HF4.out, HO.out.bad k, by rw [← HS.out]; exact HRUN2.out, HB4.out⟩
            case measure => simp [intOf]; omega
          | true =>
            have HS : Hid (stepF f s k = (nextL f k).foldl (fun r t => reachF n r k t d) s) := Lib.hid (by rw [HSTEP.out]; rfl)
            have HD32 : Hid (0 ≤ d ∧ d ≤ 32) := Lib.hid (by
              have h := HZ.out
              unfold fitsB at h
              rw [HD.out, Bool.and_eq_true, decide_eq_true_eq, decide_eq_true_eq] at h
              have h2 := HD.out
              unfold depthZ at h2
              have := pushesZ_range (cop f k)
              omega)
            go_wp2_with fail
            refine (HNext.out s wv k w3 HF3.out (HRow.out _ HB3.out) hkn).mono ?_
            rintro e w5 ⟨AL, cL, rfl, hli, hap, hb5⟩
            have HR3 := Lib.hid (R3.start (w0 := w) HF3.out hli hap hb5 (by rw [HML.out]; exact HB3.out) (by have := HF3.out.lt; have := HF3.out.lg; omega))
            obtain ⟨L, hLL⟩ : ∃ L, nextL f k = L := ⟨_, rfl⟩
            have HT := Lib.hid (HNL.out k hkn)
            rw [hLL] at HR3 HS HT ⊢
            obtain ⟨ln, hln⟩ : ∃ ln, L.length = ln := ⟨_, rfl⟩
            rw [hln]
            have HLN := Lib.hid hln
            have hl4 : ln ≤ 1000 := by
              rw [← hln, ← hLL]; unfold nextL
              split
              · simp
              · split
                · simp
                · split <;> simp
            clear hli hap hb5 HF3 HB3 hLL hln HSTEP
            go_wp2_with fail
            go_loopw [66] (fun i wq => ∃ (p : Nat) (s3 : Fl) (wv3 : Value), p ≤ ln ∧ i = .int .i64 p ∧ R3 w m L AL s3 wv3 wq ∧ Okf n s3 ∧ (L.drop p).foldl (fun r t => reachF n r k t d) s3 = stepF f s k) (fun i _ => ln - (intOf i).toNat)
            case atStart => exact ⟨0, s, wv, Nat.zero_le _, rfl, HR3.out, HO.out, by rw [HS.out]; rfl⟩
            case round =>
              clear HR3
              obtain ⟨p, s3, wv3, hp, rfl, h3, ho3, hfold⟩ := hrel
              have HR3 := Lib.hid h3; have HO3 := Lib.hid ho3; have HFO := Lib.hid hfold
              clear h3 ho3 hfold
              by_cases hpl : p < ln
              · have hpL : p < L.length := by rw [HLN.out]; exact hpl
                obtain ⟨bl, ol, rfl, _, hcl⟩ := lie_nat HR3.out.li hpL
                have HTT := Lib.hid (HT.out (L[p]) (List.getElem_mem hpL))
                have HFO2 := HFO.out
                rw [List.drop_eq_getElem_cons hpL, List.foldl_cons] at HFO2
                obtain ⟨t, ht⟩ : ∃ t, L[p] = t := ⟨_, rfl⟩
                rw [ht] at hcl HTT HFO2
                have HFO3 := Lib.hid HFO2
                clear HFO2 ht hpL HFO
                go_wp2_with fail
                refine (HReach.out s3 wv3 k t d wr HR3.out.fl (HRow.out _ (by have := HR3.out.b; rw [HML.out] at this; exact this)) HO3.out hkn HTT.out).mono ?_
                intro e w6 hmade
                obtain ⟨wv6, h6⟩ := HR3.out.reach hmade
                have HR6 := Lib.hid h6
                have HO6 := Lib.hid (HO3.out.reach k t d HTT.out HD32.out)
                obtain ⟨rfl, _⟩ := hmade
                clear h6 hcl HR3
                go_wp2_with fail
                go_roundw
                case rel => exact ⟨p + 1, _, wv6, by omega, by go_num, HR6.out, HO6.out, HFO3.out⟩
                case measure => simp [intOf]; omega
              · obtain rfl : p = ln := by omega
                have HX : Hid (s3 = stepF f s k) := Lib.hid (by rw [← HFO.out, List.drop_eq_nil_of_le (by rw [HLN.out]; exact Nat.le_refl _)]; rfl)
                clear HFO
                go_wp2_with fail
                go_roundw
                case rel => exact ⟨j + 1, s3, wv3, by go_num, by omega, HR3.out.fl, HO3.out, by rw [HX.out]; exact HRUN2.out, by have := HR3.out.b; rw [HML.out] at this; exact this⟩
                case measure => simp [intOf]; omega
        · have HEND : Hid (s = Ff) := Lib.hid (by rw [← HRUN.out, run_end _ _ _ _ (by rw [HQ.out]; exact hjq)])
          clear hwc
          go_wp2_with fail
          go_ret
          refine ⟨m, by rw [HMG.out]; rfl, ⟨wv, ?_⟩, by rw [HMN.out, HN.out], by rw [HMC.out], by rw [HLO.out]; exact HB.out⟩
          rw [HFE.out, ← HEND.out]; exact HF.out

end Go.Proofs.Ytjnlgmjcabbaaaa
