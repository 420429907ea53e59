/- Package park: All. -/
import Derived.Test.YtboelofkbhgmfaaLk20
import Derived.Test.YtboelofkbhgmfaaAll13
namespace Go.Proofs.Ytboelofkbhgmfaa
set_option maxRecDepth 100000
open Go.RowKit

def pairW (x : WaitX) : TK × Int := (x.1.1, x.2)
/-- All under way: the list Lk, in block v's own; its stacks elsewhere. -/
structure AlP (w wr : World) (v : Value) (L Lk : List WaitX) : Prop where
  own : OwnW wr w.heap.size v Lk
  eq : Lk.map pairW = L.map pairW
  st : ∀ x ∈ Lk, StkV wr (fun i => i < wr.heap.size ∧ v.ownBlock ≠ some i) x.1 ∧ x.1.1.st.length ≤ 100000
  bl : Below w.heap.size w wr
theorem waits_set {L : List WaitX} {cur : List Value} {k : Nat} (hk : k < L.length) (x : WaitX) (hx : x.2 = L[k].2) (hc : cur.take (L.length * 13) = rowE waitA L) :
    (cur.take (k * 13) ++ (taskA x.1.1 x.1.2).toList ++ cur.drop (k * 13 + 12)).take (L.length * 13) = rowE waitA (L.set k x) := by
  have hl := rowE_length waitA_size L
  have hcl : L.length * 13 ≤ cur.length := by
    have := congrArg List.length hc
    rw [List.length_take, hl] at this; omega
  have hat : ∀ i, i < L.length * 13 → cur[i]? = (rowE waitA L)[i]? := fun i hi => by
    rw [← hc, List.getElem?_take, if_pos hi]
  have hg : ∀ (M : List WaitX) i (hi : i < M.length * 13), (rowE waitA M)[i]? = (waitA (M[i / 13]'(by omega)))[i % 13]? := fun M i hi => by
    have hx : M[i / 13]? = some (M[i / 13]'(by omega)) := List.getElem?_eq_getElem _
    have hj : (waitA (M[i / 13]'(by omega)))[i % 13]? = some ((waitA (M[i / 13]'(by omega)))[i % 13]'(by rw [waitA_size]; omega)) := Array.getElem?_eq_getElem _
    have h1 := rowE_get waitA_size hx hj
    rw [show i / 13 * 13 + i % 13 = i from by omega] at h1
    rw [h1, hj]
  have hs : (taskA x.1.1 x.1.2).toList.length = 12 := rfl
  apply List.ext_getElem?
  intro i
  rw [List.getElem?_take]
  by_cases hi : i < L.length * 13
  · rw [if_pos hi, hg (L.set k x) i (by simpa using hi)]
    by_cases h1 : i < k * 13
    · rw [List.append_assoc, List.getElem?_append_left (by rw [List.length_take]; omega), List.getElem?_take, if_pos h1, hat i hi, hg L i hi]
      rw [List.getElem_set_ne (by omega)]
    · by_cases h2 : i < k * 13 + 12
      · have e : i / 13 = k := by omega
        rw [List.append_assoc, List.getElem?_append_right (by rw [List.length_take]; omega), List.getElem?_append_left (by rw [List.length_take, hs]; omega), List.length_take, show min (k * 13) cur.length = k * 13 from by omega]
        have e2 : (L.set k x)[i / 13]'(by simp; omega) = x := by
          simp only [e]; exact List.getElem_set_self _
        rw [e2, show i - k * 13 = i % 13 from by omega]
        have hm : i % 13 < 12 := by omega
        generalize i % 13 = m at *
        rcases (by omega : m = 0 ∨ m = 1 ∨ m = 2 ∨ m = 3 ∨ m = 4 ∨ m = 5 ∨ m = 6 ∨ m = 7 ∨ m = 8 ∨ m = 9 ∨ m = 10 ∨ m = 11) with rfl | rfl | rfl | rfl | rfl | rfl | rfl | rfl | rfl | rfl | rfl | rfl <;> rfl
      · rw [List.getElem?_append_right (by rw [List.length_append, List.length_take, hs]; omega), List.getElem?_drop, List.length_append, List.length_take, hs, show k * 13 + 12 + (i - (min (k * 13) cur.length + 12)) = i from by omega, hat i hi, hg L i hi]
        by_cases h3 : i < k * 13 + 13
        · have e : i / 13 = k := by omega
          have em : i % 13 = 12 := by omega
          have e2 : (L.set k x)[i / 13]'(by simp; omega) = x := by
            simp only [e]; exact List.getElem_set_self _
          have e3 : L[i / 13]'(by omega) = L[k] := by simp only [e]
          rw [e2, e3, em]
          show some (Value.int .i32 L[k].2) = some (.int .i32 x.2)
          rw [hx]
        · rw [List.getElem_set_ne (by omega)]
  · rw [if_neg hi, List.getElem?_eq_none (by rw [rowE_length waitA_size]; simp; omega)]
theorem AlP.shape {w wr : World} {v : Value} {L Lk : List WaitX} (h : AlP w wr v L Lk) {k : Nat} (hk : k < Lk.length) : ∃ g c cur, v = .slice (some ⟨g, 0, none⟩) Lk.length c ∧ w.heap.size ≤ g ∧ wr.heap[g]? = some (.cells cur 101 (0, 0)) ∧ (k * 13 + 12) ≤ cur.size ∧ wr.rangeAt g (k * 13) (taskA Lk[k].1.1 Lk[k].1.2).toList := by
  rcases h.own.2 with ⟨_, h2⟩ | ⟨g, cap, cur, hv, hb, hg, hn, hm, hcs, htk⟩
  · omega
  · have hcl : Lk.length * 13 ≤ cur.size := by
      have := congrArg List.length htk
      rw [List.length_take, rowE_length waitA_size, Array.length_toList] at this; omega
    refine ⟨g, cap, cur, hv, hb, hg, by omega, fun i u hu => ?_⟩
    have hi : i < 12 := (List.getElem?_eq_some_iff.1 hu).1
    have hu2 : (waitA Lk[k])[i]? = some u := by
      rw [← hu]
      rcases (by omega : i = 0 ∨ i = 1 ∨ i = 2 ∨ i = 3 ∨ i = 4 ∨ i = 5 ∨ i = 6 ∨ i = 7 ∨ i = 8 ∨ i = 9 ∨ i = 10 ∨ i = 11) with rfl | rfl | rfl | rfl | rfl | rfl | rfl | rfl | rfl | rfl | rfl | rfl <;> rfl
    have h1 := rowE_get waitA_size (List.getElem?_eq_getElem hk) hu2
    have h2 := h.own.cells (g := g) (by rw [hv]; rfl) _ _ h1
    have ea : (⟨g, 0, none⟩ : Addr).add (k * 13 + i) = ⟨g, k * 13 + i, none⟩ := by unfold Addr.add; split <;> simp_all
    rwa [ea] at h2
/-- A task's own copy is stored in its place. -/
theorem AlP.put {w wr w2 : World} {L Lk : List WaitX} {g c k : Nat} {cur : Array Value} (h : AlP w wr (.slice (some ⟨g, 0, none⟩) Lk.length c) L Lk) (hk : k < Lk.length) (hg : wr.heap[g]? = some (.cells cur 101 (0, 0))) (hb : Below wr.heap.size wr w2) {s' : Value}
    (ho : Own32 w2 wr.heap.size s' Lk[k].1.1.st) :
    AlP w (w2.setRow g (cur.toList.take (k * 13) ++ (taskA Lk[k].1.1 s').toList ++ cur.toList.drop (k * 13 + 12)).toArray) (.slice (some ⟨g, 0, none⟩) Lk.length c) L (Lk.set k ((Lk[k].1.1, s'), Lk[k].2)) := by
  have hlt := (Array.getElem?_eq_some_iff.1 hg).1
  have hs := World.ownsRow.lt ho
  have hsz : (w2.setRow g (cur.toList.take (k * 13) ++ (taskA Lk[k].1.1 s').toList ++ cur.toList.drop (k * 13 + 12)).toArray).heap.size = w2.heap.size := by simp [World.setRow]
  have hgb : w.heap.size ≤ g := by
    rcases h.own.2 with ⟨e, _⟩ | ⟨g', _, _, e, hb, _⟩
    · cases e
    · injection e with e; injection e with e; injection e with e; omega
  have hF : Frm (One g) wr (w2.setRow g (cur.toList.take (k * 13) ++ (taskA Lk[k].1.1 s').toList ++ cur.toList.drop (k * 13 + 12)).toArray) :=
    ⟨hb.os, hb.tape, hb.output, by rw [hsz]; exact hb.size, fun j hj hn => (row_far (fun e => hn e)).trans (hb.block j hj)⟩
  refine ⟨?_, ?_, ?_, (h.bl.trans (hb.mono h.bl.size)).trans (row_below hgb)⟩
  · unfold OwnW
    rw [List.length_set]
    refine ⟨by rw [rowE_length waitA_size, List.length_set], ?_⟩
    rcases h.own.2 with ⟨e, _⟩ | ⟨g', cap, cur', e, hb', hg', hn, hm, hcs, htk⟩
    · cases e
    · injection e with e1 e2 e3
      injection e1 with e1
      injection e1 with e1 _
      subst e1
      have hcc : cur' = cur := by
        rw [hg] at hg'
        injection hg' with hg'
        injection hg' with hg' _ _
        exact hg'.symm
      subst hcc
      have hcl : Lk.length * 13 ≤ cur'.size := by
        have := congrArg List.length htk
        rw [List.length_take, rowE_length waitA_size, Array.length_toList] at this; omega
      have hsame : (cur'.toList.take (k * 13) ++ (taskA Lk[k].1.1 s').toList ++ cur'.toList.drop (k * 13 + 12)).toArray.size = cur'.size := by
        simp [taskA]; omega
      refine .inr ⟨g, cap, _, by rw [e3], hb', row_at ((hb.block g hlt).trans hg) _, hn, hm, by rw [hsame]; exact hcs, ?_⟩
      have := waits_set hk ((Lk[k].1.1, s'), Lk[k].2) rfl htk
      rw [List.toList_toArray]
      exact this
  · rw [List.map_set, ← h.eq]
    have : pairW ((Lk[k].1.1, s'), Lk[k].2) = (Lk.map pairW)[k]'(by simpa using hk) := by simp [pairW]
    rw [this, List.set_getElem_self]
  · intro x hx
    rcases List.mem_or_eq_of_mem_set hx with hx | rfl
    · refine ⟨(h.st x hx).1.keep hF (fun i hi e => hi.2 (by rw [show i = g from e]; rfl)) (fun i hi hS => ⟨by rw [hsz]; have := hb.size; omega, hS.2⟩) (fun i hi => hi.1), (h.st x hx).2⟩
    · refine ⟨?_, (h.st _ (List.getElem_mem hk)).2⟩
      have ho2 : Own32 (w2.setRow g (cur.toList.take (k * 13) ++ (taskA Lk[k].1.1 s').toList ++ cur.toList.drop (k * 13 + 12)).toArray) wr.heap.size s' Lk[k].1.1.st := ownsRow_keep ho fun b e => row_far (by have := hs b e; omega)
      obtain ⟨A, c', e, hn, _, _, hl, hbk⟩ := Lies.of_own ho2
      refine ⟨A, c', e, hn, hl, fun b off e2 => ?_⟩
      have h3 := hbk b off e2
      refine ⟨h3.2, fun e4 => ?_⟩
      have e5 : g = b := by injection e4
      omega

/-- What All answers. -/
def PkAll (w : World) (L : List WaitX) (e : Ending) (w' : World) : Prop := ∃ v Lk, e = .returned v ∧ AlP w w' v L Lk
theorem rowW_ones {w : World} {K : WaitX → Nat → Prop} {L : List WaitX} (h : ∀ x ∈ L, StkV w (K x) x.1) : ∀ u ∈ rowE waitA L, u.oneCell' = true := by
  intro u hu
  obtain ⟨x, hx, hu⟩ := List.mem_flatMap.1 hu
  obtain ⟨A, c, e, _⟩ := h x hx
  exact wait_ones (by rw [e]; rfl) u hu
set_option maxRecDepth 100000 in
set_option maxHeartbeats 16000000 in
theorem pkAll_any {w : World} {S : Nat → Prop} {a : Nat} {v : Value} {L : List WaitX} (h : PkK w S a v L) (hL : L.length ≤ 100000) :
    Calls Try.prog 48 #[.pointer (some ⟨a, 0, none⟩)] w (PkAll w L) := by
  have H := Lib.hid h
  obtain ⟨A, c, rfl, hnc⟩ := h.shape
  have c0 : w.cell? ⟨a, 0, none⟩ = some (.slice A L.length c) := cell_blk h.blk 0
  obtain ⟨N, hN⟩ : ∃ N, L.length = N := ⟨_, rfl⟩
  have HN := Lib.hid hN
  rw [hN] at c0 hnc hL
  have HW1 : Hid (∀ u ∈ rowE waitA L, u.oneCell' = true) := Lib.hid (rowW_ones (K := fun _ => _) fun x hx => (h.st x hx).1)
  have HXL : Hid ((rowE waitA L).length = N * 13) := Lib.hid (by rw [rowE_length waitA_size, hN])
  have hown := h.own
  clear h hN
  rcases hown.2 with ⟨e1, e2⟩ | ⟨g, cap, cur, e1, _, hg, _, hm, _⟩
  · have hn0 : N = 0 := by rw [← HN.out]; exact e2
    have hL0 : L = [] := List.length_eq_zero_iff.1 e2
    have HL0 := Lib.hid hL0
    have ea : A = none ∧ c = 0 := by injection e1 with e1 _ e3; exact ⟨e1, e3⟩
    obtain ⟨rfl, rfl⟩ := ea
    subst hn0
    clear e1 e2 hown hL0
    go_enter Try.func48, Try.ntmps48
    go_wp2_with fail
    go_loopw [12] (fun i wr => i = .int .i64 0 ∧ Below w.heap.size w wr) (fun _ _ => 0)
    case atStart => exact ⟨rfl, Below.refl _ _⟩
    case round =>
      obtain ⟨rfl, hb⟩ := hrel
      have HB := Lib.hid hb
      clear hb
      go_wp2_with fail
      go_ret
      exact ⟨_, [], rfl, World.ownsRow_nil _ _ _ 13, by rw [HL0.out], fun x hx => by simp at hx, HB.out⟩
  · have ea : A = some ⟨g, 0, none⟩ := by injection e1
    subst ea
    have HCE : Hid (∀ j u, (rowE waitA L)[j]? = some u → w.cell? ((⟨g, 0, none⟩ : Addr).add j) = some u) := Lib.hid (fun j u hu => hown.cells (g := g) rfl j u hu)
    have HNIL : Hid (w.ownsRow w.heap.size 101 13 (.slice none 0 0) 0 []) := Lib.hid (World.ownsRow_nil _ _ _ 13)
    obtain ⟨i0, hi, hq⟩ : ∃ i0, Try.prog.info? 101 = some i0 ∧ (i0.zero, i0.size, i0.bytes) = (some (.agg #[.int .i32 0, .int .i64 0, .int .i64 0, .slice none 0 0, .int .i32 0, .int .i32 0, .int .i32 0, .int .i32 0, .int .i64 0, .int .i64 0, .int .u32 0, .int .i64 0, .int .i32 0]), 13, 104) := by
      have hinf := inf_wait
      cases hI : Try.prog.info? 101 with
      | none => rw [hI] at hinf; cases hinf
      | some i0 => rw [hI] at hinf; exact ⟨i0, rfl, by simpa using hinf⟩
    injection hq with hq1 hq2
    injection hq2 with hq2 hq3
    have HI := Lib.hid hi; have HQ1 := Lib.hid hq1; have HQ2 := Lib.hid hq2; have HQ3 := Lib.hid hq3
    clear e1 hg hi hq1 hq2 hq3 hown
    go_enter Try.func48, Try.ntmps48
    go_wp2_with (at_builtin; go_must (refine wpList_append_own _ rfl (.const (.slice none 0 0)) (.tmp 8) 98 rfl w.heap.size 101 i0 _ 13 104 Try.underlying98 HI.out HQ1.out HQ2.out HQ3.out rfl (by decide) _ 0 [] rfl HNIL.out ⟨g, 0, none⟩ N c (rowE waitA L) rfl HXL.out HCE.out HW1.out ?c1 ?c2 ?c3 ?_))
    case c1 => unfold maxLen; omega
    case c2 => omega
    case c3 => exact Nat.le_refl _
    intro v3 w3 ho3 hg3 _
    have H0 : Hid (AlP w w3 v3 L L) := Lib.hid (by
      have ho : w3.ownsRow w.heap.size 101 13 v3 L.length (rowE waitA L) := by simpa [HN.out] using ho3
      have hB : Below w.heap.size w w3 := (Below.refl _ _).grown hg3 (Nat.le_refl _) (fun k hk => by cases hk)
      refine ⟨ho, rfl, fun x hx => ⟨((H.out.st x hx).1.keep (T := fun _ => False) (Frm.of_below hB) (fun _ _ e => e) (fun i hi hS => ⟨Nat.lt_of_lt_of_le hi hB.size, fun e => by have := (World.ownsRow.lt ho i e).1; omega⟩) (fun i hi => H.out.lt i hi.1)), (H.out.st x hx).2⟩, hB⟩)
    obtain ⟨A3, c3, e3⟩ := OwnW.shape H0.out.own
    rw [HN.out] at e3
    subst e3
    clear ho3 hg3
    go_wp2_with fail
    clear c0
    go_loopw [12] (fun i wr => ∃ (k : Nat) (Lk : List WaitX), k ≤ N ∧ i = .int .i64 k ∧ Lk.length = N ∧ AlP w wr (.slice A3 N c3) L Lk) (fun i _ => N - (intOf i).toNat)
    case atStart => exact ⟨0, L, Nat.zero_le _, rfl, HN.out, H0.out⟩
    case round =>
      clear H0
      obtain ⟨k, Lk, hk, rfl, hlen, hA⟩ := hrel
      have HA := Lib.hid hA; have HLEN := Lib.hid hlen
      by_cases hkN : k < N
      · have hkl : k < Lk.length := by omega
        have hA' : AlP w wr (.slice A3 Lk.length c3) L Lk := by rw [hlen]; exact hA
        obtain ⟨g3, cg, cur, ev, hgb, hg3, hfit, hrg⟩ := hA'.shape hkl
        have ev1 : A3 = some ⟨g3, 0, none⟩ := by injection ev
        have ev3 : cg = c3 := by injection ev with _ _ e; exact e.symm
        subst ev1
        subst ev3
        clear ev
        have HPUT := Lib.hid (fun (w2 : World) (hb : Below wr.heap.size wr w2) (s' : Value) ho => hA'.put hkl hg3 hb (s' := s') ho)
        obtain ⟨Ax, cx, ex, hlc, hli, hxS⟩ := (hA.st Lk[k] (List.getElem_mem hkl)).1
        have hn := (hA.st Lk[k] (List.getElem_mem hkl)).2
        have hv : I32V wr wr.heap.size Lk[k].1.2 Lk[k].1.1.st := ⟨Ax, cx, ex, hlc, hli⟩
        have HOT := Lib.hid (ownTask_any Lk[k].1.1 Lk[k].1.2 wr hv hn)
        obtain ⟨x, hx⟩ : ∃ x, Lk[k] = x := ⟨_, rfl⟩
        rw [hx] at hrg HPUT HOT ex hn
        obtain ⟨⟨t, s⟩, id⟩ := x
        have ex' : s = .slice Ax t.st.length cx := ex
        subst ex'
        have HRG := Lib.hid hrg
        have HG3 := Lib.hid hg3
        have hlt := (Array.getElem?_eq_some_iff.1 hg3).1
        have HFIT : Hid (k * 13 + (taskA t (.slice Ax t.st.length cx)).size ≤ cur.size) := Lib.hid hfit
        have i1 : (0 : Int) ≤ (k : Int) ∧ (k : Int) < N := by omega
        obtain ⟨m, hm1⟩ : ∃ m, t.st.length = m := ⟨_, rfl⟩
        rw [hm1] at HRG HOT HFIT
        clear hA hA' hg3 hrg hv hlc hli hxS hx hkl hlen hn ex hfit hm1
        go_wp2_with (first | (refine load_taskMid rfl _ rfl g3 (k * 13) t (.slice Ax m cx) rfl HRG.out ?_; simp only [taskV, taskA]) | fail)
        refine HOT.out.mono ?_
        rintro e w2 ⟨⟨s2, rfl, ho⟩, hb⟩
        obtain ⟨A2, n2, c2, rfl⟩ := ho.shape
        have HP := Lib.hid (HPUT.out w2 hb _ ho)
        have HG2 : Hid (w2.heap[g3]? = some (.cells cur 101 (0, 0))) := Lib.hid ((hb.block g3 hlt).trans HG3.out)
        have HF2 : Hid (k * 13 + (taskA t (.slice A2 n2 c2)).size ≤ cur.size) := Lib.hid HFIT.out
        have HL2 : Hid ((Lk.set k ((t, .slice A2 n2 c2), id)).length = N) := Lib.hid (by simpa using HLEN.out)
        obtain ⟨w3, hw3⟩ : ∃ x, x = w2.setRow g3 (cur.toList.take (k * 13) ++ (taskA t (.slice A2 n2 c2)).toList ++ cur.toList.drop (k * 13 + 12)).toArray := ⟨_, rfl⟩
        rw [← hw3] at HP
        have HW3 := Lib.hid hw3
        clear ho hb hw3
        go_wp2_with (first | (refine wpList_store_at rfl 89 _ _ rfl g3 (k * 13) (taskA t (.slice A2 n2 c2)) rfl rfl _ _ HG2.out info_task HF2.out (task_ones rfl) ?_; rw [show (taskA t (.slice A2 n2 c2)).size = 12 from rfl, ← HW3.out]) | fail)
        go_roundw
        case rel => exact ⟨k + 1, _, by omega, by go_num, HL2.out, by have := HP.out; rw [HLEN.out] at this; exact this⟩
        case measure => simp [intOf]; omega
      · obtain rfl : N = k := by omega
        clear hA hlen
        go_wp2_with fail
        go_ret
        exact ⟨_, Lk, rfl, HA.out⟩

end Go.Proofs.Ytboelofkbhgmfaa
