/- Records out of bytes, however many they say that there are: rows.Some, rows.Take, Read; what was written comes back. -/
import Derived.Test.YtmcphlklknfbmaaMg22
import Derived.Test.YtmcphlklknfbmaaRefRead
namespace Go.Proofs.Ytmcphlklknfbmaa
set_option maxRecDepth 100000
open Go.RowKit

theorem numR_less {most : Nat} {st : RS} (h : (numR most st).2.2 = 0) : st.2 = 0 ∧ (numR most st).2.1.length + 1 ≤ st.1.length := by
  by_cases e : st.2 = 0
  · obtain ⟨l, e0⟩ := st
    simp only at e
    subst e
    refine ⟨rfl, ?_⟩
    by_cases e1 : (decFrom 0 0 l).2.2 = 0
    · by_cases e2 : most < (decFrom 0 0 l).1
      · rw [numR_long e1 e2] at h
        exact absurd h (by decide)
      · rw [numR_ok e1 e2]
        have := decFrom_size l 0 0 e1
        simp only [List.length_drop]
        omega
    · rw [numR_bad e1] at h
      exact absurd h e1
  · rw [numR_err e] at h
    exact absurd h e
theorem r5_less {s : RS} (h : (r5 s).2.2 = 0) : (r5 s).2.1.length + 1 ≤ s.1.length := by
  obtain ⟨h4, l5⟩ := numR_less (st := (r4 s).2) h
  obtain ⟨h3, l4⟩ := numR_less (st := (r3 s).2) h4
  obtain ⟨h2, l3⟩ := numR_less (st := (r2 s).2) h3
  obtain ⟨h1, l2⟩ := numR_less (st := (r1 s).2) h2
  obtain ⟨h0, l1⟩ := numR_less (st := (r0 s).2) h1
  obtain ⟨_, l0⟩ := numR_less (st := s) h0
  have e5 : numR 2147483647 (r4 s).2 = r5 s := rfl
  have e4 : numR 9223372036854775807 (r3 s).2 = r4 s := rfl
  have e3 : numR 4294967295 (r2 s).2 = r3 s := rfl
  have e2 : numR 9223372036854775807 (r1 s).2 = r2 s := rfl
  have e1 : numR 9223372036854775807 (r0 s).2 = r1 s := rfl
  have e0 : numR 9223372036854775807 s = r0 s := rfl
  rw [e5] at l5; rw [e4] at l4; rw [e3] at l3; rw [e2] at l2; rw [e1] at l1; rw [e0] at l0
  omega
theorem someR_left : ∀ (n : Nat) (st : RS) (L : List RecX), (someR n st).1 = some L → L.length + (someR n st).2.1.length ≤ st.1.length
  | 0, st, L, h => by injection h with h; subst h; simp [someR]
  | n + 1, st, L, h => by
    unfold someR at h ⊢
    split at h
    · cases h
    · rename_i he
      rw [if_neg he]
      cases hq : (someR n (r5 st).2).1 with
      | none => rw [hq] at h; cases h
      | some M =>
        rw [hq] at h
        injection h with h
        subst h
        have h1 := someR_left n _ M hq
        have h2 := r5_less (s := st) (by simpa using he)
        rw [List.length_cons]
        show M.length + 1 + (someR n (r5 st).2).2.1.length ≤ _
        omega
theorem takeR_len {l : List Int} (hm : l.length ≤ 90000) : ((takeR (l, 0)).1.getD []).length ≤ 100000 := by
  unfold takeR
  cases hq : (someR (r0 (l, 0)).1 (r0 (l, 0)).2).1 with
  | none => exact Nat.zero_le _
  | some L =>
    rw [Option.getD_some]
    have h1 := someR_left _ _ L hq
    have h2 := numR_left 9223372036854775807 (l, 0)
    have h3 : (r0 (l, 0)).2.1.length ≤ l.length := h2
    omega
set_option maxRecDepth 100000 in
set_option maxHeartbeats 8000000 in
theorem someB_any {w : World} {B g n : Nat} {st : RS} (h : Rd w B g 155 st) (hn : n ≤ 9223372036854775807) (hst : st.1.length ≤ 90000) :
    Calls Try.prog 93 #[.pointer (some ⟨g, 0, none⟩), .int .u64 (n : Int), .func (.func 78) #[] #[]] w (SomeMade w B g (someR n st)) := by
  have hgl : g < w.heap.size := h.lt
  have HH := Lib.hid h
  obtain ⟨m, hm⟩ : ∃ m, st.1.length = m := ⟨_, rfl⟩
  have HM := Lib.hid hm
  rw [hm] at hst
  have HST0 := Lib.hid hst
  clear hm hst
  obtain ⟨q, hq⟩ : ∃ q, someR n st = q := ⟨_, rfl⟩
  have HQ := Lib.hid hq
  rw [hq]
  clear hq h
  go_enter Try.func93, Try.ntmps93
  go_wp2_with fail
  go_loopw [7, 10] (fun x i wr => ∃ (j : Nat) (L : List RecX) (s : RS), j ≤ n ∧ i = .int .u64 j ∧ OwnR wr w.heap.size x L ∧ L.length = j ∧ Rd wr B g 155 s ∧ someR n st = ((someR (n - j) s).1.map (L ++ ·), (someR (n - j) s).2) ∧ w.grownBy wr (some g) ∧ s.1.length + j ≤ m) (fun _ i _ => n - (intOf i).toNat)
  case atStart => exact ⟨0, [], st, Nat.zero_le _, rfl, OwnR.nil _ _, rfl, HH.out, by simp, ⟨rfl, rfl, rfl, Nat.le_refl _, fun _ _ _ => rfl⟩, by rw [HM.out]; omega⟩
  case round =>
    obtain ⟨j, L, s, hj, rfl, ho, hL, hr, hs, hg, hle⟩ := hrel
    have HLE := Lib.hid hle
    clear hle
    have HO := Lib.hid ho; have HG := Lib.hid hg; have HS := Lib.hid hs; have HLL := Lib.hid hL; have HR := Lib.hid hr
    obtain ⟨A7, c7, e7⟩ := ho.shape
    rw [hL] at e7
    subst e7
    by_cases hjn : j < n
    · have HT := Lib.hid (take1_any hr)
      unfold Took at HT
      obtain ⟨x, hx⟩ : ∃ x, recR s = x := ⟨_, rfl⟩
      rw [hx] at HT
      obtain ⟨s2, hs2⟩ : ∃ y, (r5 s).2 = y := ⟨_, rfl⟩
      rw [hs2] at HT
      have HST : Hid (s2.2 = 0 → someR n st = ((someR (n - (j + 1)) s2).1.map ((L ++ [x]) ++ ·), (someR (n - (j + 1)) s2).2)) := Lib.hid (by rw [← hs2, ← hx]; exact someR_step hjn hs)
      have HSP : Hid (s2.2 ≠ 0 → someR n st = (none, s2)) := Lib.hid (by rw [← hs2]; exact someR_stop hjn hs)
      have HLS : Hid (s2.2 = 0 → s2.1.length + (j + 1) ≤ m) := Lib.hid (by rw [← hs2]; intro e; have := r5_less e; have := HLE.out; omega)
      clear ho hg hs hL hr hx hs2
      simp only [recA] at HT
      go_wp2_with fail
      refine HT.out.mono ?_
      rintro e w1 ⟨rfl, r1', g1⟩
      obtain ⟨w2, hw2, hX2, hB2⟩ := rec_box w1 x
      have HZ := Lib.hid (rec_zero w1)
      have HX2 := Lib.hid hX2
      have HW2 := Lib.hid hw2
      have r2' := r1'.below hB2
      have HE := Lib.hid (err_any B g s2 w2 r2')
      have HR2 := Lib.hid r2'
      have HO1 : OwnR w1 w.heap.size (.slice A7 j c7) L := ownsRow_keep HO.out fun k e => g1.block k (World.ownsRow.lt HO.out k e).2 (fun e2 => by injection e2 with e2; have := (World.ownsRow.lt HO.out k e).1; omega)
      have HO2 := Lib.hid (HO1.keep hB2)
      have HG2 := Lib.hid (grown_below (grown_trans HG.out g1) (hB2.mono (Nat.le_trans HG.out.size g1.size)))
      have hws : w.heap.size ≤ w2.heap.size := HG2.out.size
      have i1 : (0 : Int) ≤ (j : Int) ∧ (j : Int) < n := by omega
      clear r1' g1 hw2 hX2 hB2 r2' HO1
      by_cases he : s2.2 = 0
      · have z : (s2.2 != 0) = false := by simpa using he
        have HST2 := Lib.hid (HST.out he)
        have HLS2 := Lib.hid (HLS.out he)
        clear he
        go_wp2_with (first | (refine store_rec rfl _ _ rfl rfl w1.heap.size x rfl rfl _ zR HZ.out ?_; rw [← HW2.out]) | fail)
        refine HE.out.mono ?_
        rintro e w3 ⟨rfl, rfl⟩
        go_wp2_with (first | (refine load_recAt rfl _ rfl w1.heap.size x rfl _ _ HX2.out ?_; simp only [recA]) | (at_builtin; go_must (refine append_recs rfl (.tmp 18) (.tmp 20) rfl w.heap.size _ _ rfl (HO2.out.keep (below_alloc _ _)) w2.heap.size 0 1 [x] rfl (fresh_rec w2 x) ?c1 ?c2 ?_)) | fail)
        case c1 => have := HLL.out; have := HLE.out; have := HST0.out; simp; omega
        case c2 => simp; omega
        intro v3 w3 o3 g3 b3
        have HO3 := Lib.hid o3
        have HL3 : Hid ((L ++ [x]).length = j + 1) := Lib.hid (by rw [List.length_append, HLL.out]; rfl)
        have hgx : ∀ k, (Value.slice A7 j c7).ownBlock = some k → w.heap.size ≤ k ∧ k < w2.heap.size := fun k e => World.ownsRow.lt HO2.out k e
        have hRd : Rd w3 B g 155 s2 := by
          have h1 := HR2.out.alloc' (.cells (recA x) 59)
          exact h1.keep g3 (fun e => by have := hgx g e.symm; omega) (fun k e => by have := hgx k e; have := HR2.out.le; omega)
        have HRd := Lib.hid hRd
        have HG3 : Hid (w.grownBy w3 (some g)) := Lib.hid (by
          have hal : ∀ o : Obj, (w2.alloc o).heap.size = w2.heap.size + 1 := fun o => by simp
          have hs3 := g3.size
          rw [hal] at hs3
          refine ⟨g3.os.trans HG2.out.os, g3.tape.trans HG2.out.tape, g3.output.trans HG2.out.output, by omega, fun k hk hne => ?_⟩
          rw [g3.block k (by rw [hal]; omega) (fun e => by have := hgx k e.symm; omega), heap_alloc_old w2 _ (by omega)]
          exact HG2.out.block k hk hne)
        clear o3 g3 b3 hRd hgx
        go_wp2_with fail
        go_roundw
        case rel => exact ⟨j + 1, L ++ [x], s2, by omega, by go_num, HO3.out, HL3.out, HRd.out, HST2.out, HG3.out, HLS2.out⟩
        case measure => simp [intOf]; omega
      · have z : (s2.2 != 0) = true := by simpa using he
        obtain rfl : q = (none, s2) := by rw [← HQ.out]; exact HSP.out he
        clear he
        go_wp2_with (first | (refine store_rec rfl _ _ rfl rfl w1.heap.size x rfl rfl _ zR HZ.out ?_; rw [← HW2.out]) | fail)
        refine HE.out.mono ?_
        rintro e w3 ⟨rfl, rfl⟩
        go_wp2_with fail
        go_ret
        exact ⟨_, rfl, OwnR.nil _ _, HR2.out, HG2.out⟩
    · obtain rfl : n = j := by omega
      have e0 : someR n st = (some L, s) := by rw [hs, Nat.sub_self]; simp [someR]
      obtain rfl : q = (some L, s) := by rw [← HQ.out]; exact e0
      clear e0 ho hg hs hL hr
      go_wp2_with fail
      go_ret
      exact ⟨_, rfl, HO.out, HR.out, HG.out⟩
set_option maxRecDepth 100000 in
set_option maxHeartbeats 2000000 in
theorem rowsTakeB_any {w : World} {B g : Nat} {st : RS} (h : Rd w B g 155 st) (hst : st.1.length ≤ 90000) :
    Calls Try.prog 77 #[.pointer (some ⟨g, 0, none⟩), .func (.func 78) #[] #[]] w (SomeMade w B g (takeR st)) := by
  have HN0 := Lib.hid (num_any B g st 9223372036854775807 w (by omega) h)
  have HSO := Lib.hid (fun w' (h' : Rd w' B g 155 (r0 st).2) => someB_any (n := (r0 st).1) h' (numR_most 9223372036854775807 st) (Nat.le_trans (numR_left 9223372036854775807 st) hst))
  have e1 : takeR st = someR (r0 st).1 (r0 st).2 := rfl
  rw [e1]
  have e2 : numR 9223372036854775807 st = r0 st := rfl
  rw [e2] at HN0
  obtain ⟨n, hnn⟩ : ∃ n, (r0 st).1 = n := ⟨_, rfl⟩
  obtain ⟨s, hs⟩ : ∃ s, (r0 st).2 = s := ⟨_, rfl⟩
  rw [hnn, hs] at HN0 HSO
  rw [hnn, hs]
  clear hst
  clear e1 e2 h hnn hs
  generalize someR n s = q at *
  go_enter Try.func77, Try.ntmps77
  go_wp2_with fail
  refine HN0.out.mono ?_
  rintro e w1 ⟨rfl, r1', g1⟩
  have HS1 := Lib.hid (HSO.out w1 r1')
  have HG1 := Lib.hid g1
  clear r1' g1
  go_wp2_with fail
  refine HS1.out.mono ?_
  rintro e w2 ⟨v2, rfl, o2, r2', g2⟩
  have HF : Hid (SomeMade w B g q (.returned v2) w2) := Lib.hid ⟨v2, rfl, by
    refine ⟨o2.1, ?_⟩
    rcases o2.2 with e | ⟨gq, cap, cur, e, hg, h3⟩
    · exact .inl e
    · exact .inr ⟨gq, cap, cur, e, Nat.le_trans HG1.out.size hg, h3⟩, r2', grown_trans HG1.out g2⟩
  obtain ⟨A2, c2, e2⟩ := o2.shape
  subst e2
  clear o2 r2' g2
  go_wp2_with fail
  go_ret
  exact HF.out
set_option maxRecDepth 100000 in
set_option maxHeartbeats 4000000 in
theorem readB_any {w : World} {A : Option Addr} {c : Nat} {l : List Int} (hm : l.length ≤ 90000) (hl : Lies w w.heap.size A (u8s l)) (hb : IsBytes l) :
    Calls Try.prog 43 #[.slice A l.length c] w (ReadMade w (readQ l)) := by
  have HNW := Lib.hid (new_any w.heap.size A c l w (by omega) (Nat.le_refl _) hl hb)
  have HTK := Lib.hid (fun (w' : World) (g : Nat) (h' : Rd w' g g 155 (l, 0)) => rowsTakeB_any h' hm)
  have hln : ((takeR (l, 0)).1.getD []).length ≤ 100000 := takeR_len hm
  have hok : ∀ x ∈ (takeR (l, 0)).1.getD [], RcOk x := getD_ok (someR_ok (r0 (l, 0)).1 (r0 (l, 0)).2)
  have HQ : Hid (readQ l = if (takeR (l, 0)).2.2 = 0 ∧ (takeR (l, 0)).2.1 = [] ∧ rightL ((takeR (l, 0)).1.getD []) = true then ((takeR (l, 0)).1.getD [], 0) else ([], 20)) := Lib.hid rfl
  obtain ⟨n, hnl⟩ : ∃ n, l.length = n := ⟨_, rfl⟩
  rw [hnl] at HNW ⊢
  generalize takeR (l, 0) = q at *
  obtain ⟨L?, s⟩ := q
  simp only at HQ hok hln
  have HRT := Lib.hid (fun (w' : World) (v : Value) (h' : RcV w' v (L?.getD [])) => right_any h' (by omega) hok)
  obtain ⟨Q, hQ⟩ : ∃ Q, readQ l = Q := ⟨_, rfl⟩
  rw [hQ] at HQ ⊢
  clear hl hb hok hln hQ hm hnl
  go_enter Try.func43, Try.ntmps43
  go_wp2_with fail
  refine HNW.out.mono ?_
  rintro e w1 ⟨g, rfl, hg, rd1, hb1⟩
  have HT1 := Lib.hid (HTK.out w1 g rd1)
  have HB1 := Lib.hid hb1
  have hgw : w.heap.size ≤ g := hg
  clear rd1 hb1 hg HTK HNW
  go_wp2_with fail
  refine HT1.out.mono ?_
  rintro e w2 ⟨v2, rfl, o2, r2', g2⟩
  have HB2 : Hid (Below w.heap.size w w2) := Lib.hid (HB1.out.grown g2 HB1.out.size (fun k e => by injection e with e; omega))
  have HO2 : Hid (OwnR w2 w.heap.size v2 (L?.getD [])) := Lib.hid (by
    refine ⟨o2.1, ?_⟩
    rcases o2.2 with e | ⟨gq, cap, cur, e, hg, h3⟩
    · exact .inl e
    · exact .inr ⟨gq, cap, cur, e, Nat.le_trans HB1.out.size hg, h3⟩)
  have HE := Lib.hid (err_any g g s w2 r2')
  have HLF := Lib.hid (left_any g g s w2 r2')
  have HR2 := Lib.hid (HRT.out w2 v2 o2.rc)
  obtain ⟨A2, c2, e2⟩ := o2.shape
  obtain ⟨k2, hk2⟩ : ∃ k, (L?.getD []).length = k := ⟨_, rfl⟩
  rw [hk2] at e2
  subst e2
  clear o2 r2' g2 hk2 HRT HT1
  obtain ⟨bb, hbb⟩ : ∃ y, rightL (L?.getD []) = y := ⟨_, rfl⟩
  rw [hbb] at HQ HR2
  clear hbb
  by_cases he : s.2 = 0
  · have z1 : (s.2 != 0) = false := by simpa using he
    by_cases hl0 : s.1 = []
    · have z2 : decide (0 < s.1.length) = false := by rw [hl0]; rfl
      cases bb with
      | true =>
        obtain rfl : Q = (L?.getD [], 0) := by rw [HQ.out, if_pos ⟨he, hl0, rfl⟩]
        clear he hl0
        generalize s.1.length = m at *
        go_wp2_with fail
        refine HE.out.mono ?_
        rintro e w3 ⟨rfl, rfl⟩
        go_wp2_with fail
        refine HLF.out.mono ?_
        rintro e w3 ⟨rfl, rfl⟩
        go_wp2_with fail
        refine HR2.out.mono ?_
        rintro e w4 ⟨rfl, hb4⟩
        have HO4 := Lib.hid (HO2.out.keep hb4)
        have HB4 := Lib.hid (nextB HB2.out hb4)
        clear hb4
        go_wp2_with fail
        go_ret2
        exact ⟨_, rfl, HO4.out, HB4.out⟩
      | false =>
        obtain rfl : Q = ([], 20) := by rw [HQ.out, if_neg (by simp)]
        clear he hl0
        generalize s.1.length = m at *
        go_wp2_with fail
        refine HE.out.mono ?_
        rintro e w3 ⟨rfl, rfl⟩
        go_wp2_with fail
        refine HLF.out.mono ?_
        rintro e w3 ⟨rfl, rfl⟩
        go_wp2_with fail
        refine HR2.out.mono ?_
        rintro e w4 ⟨rfl, hb4⟩
        have HB4 := Lib.hid (nextB HB2.out hb4)
        clear hb4
        go_wp2_with fail
        go_ret2
        exact ⟨_, rfl, OwnR.nil _ _, HB4.out⟩
    · have z2 : decide (0 < s.1.length) = true := by
        have : s.1.length ≠ 0 := fun e => hl0 (List.eq_nil_of_length_eq_zero e)
        simp; omega
      obtain rfl : Q = ([], 20) := by rw [HQ.out, if_neg (by rintro ⟨_, e, _⟩; exact hl0 e)]
      clear he hl0
      generalize s.1.length = m at *
      go_wp2_with fail
      refine HE.out.mono ?_
      rintro e w3 ⟨rfl, rfl⟩
      go_wp2_with fail
      refine HLF.out.mono ?_
      rintro e w3 ⟨rfl, rfl⟩
      go_wp2_with fail
      go_ret2
      exact ⟨_, rfl, OwnR.nil _ _, HB2.out⟩
  · have z1 : (s.2 != 0) = true := by simpa using he
    obtain rfl : Q = ([], 20) := by rw [HQ.out, if_neg (by rintro ⟨e, _⟩; exact he e)]
    clear he
    go_wp2_with fail
    refine HE.out.mono ?_
    rintro e w3 ⟨rfl, rfl⟩
    go_wp2_with fail
    go_ret2
    exact ⟨_, rfl, OwnR.nil _ _, HB2.out⟩
/-- What was written comes back. -/
theorem i32of_word {v : Int} (h : -2147483648 ≤ v ∧ v ≤ 2147483647) : i32of (wordN v) = v := by unfold i32of wordN; split <;> omega
theorem rec_back {x : RecX} (h : RcPos x) (rest : List Int) : recR (recB x ++ rest, 0) = x ∧ (r5 (recB x ++ rest, 0)).2 = (rest, 0) := by
  obtain ⟨⟨h1, h2, h3, h4, h5, h6⟩, p1, p2, p3, p4, p5⟩ := h
  unfold I64 at h1 h2 h3 h5
  obtain ⟨sq, gt, tt, vl, rd, bb⟩ := x
  simp only at h1 h2 h3 h4 h5 h6 p1 p2 p3 p4 p5
  have eB : recB ⟨sq, gt, tt, vl, rd, bb⟩ ++ rest = enc sq.toNat ++ (enc gt.toNat ++ (enc tt.toNat ++ (enc (wordN vl) ++ (enc rd.toNat ++ (enc bb.toNat ++ rest))))) := by
    simp [recB, recN, encs]
  have hw : wordN vl ≤ 4294967295 := by unfold wordN; omega
  rw [eB]
  have e0 : r0 (enc sq.toNat ++ (enc gt.toNat ++ (enc tt.toNat ++ (enc (wordN vl) ++ (enc rd.toNat ++ (enc bb.toNat ++ rest))))), 0) = (sq.toNat, (enc gt.toNat ++ (enc tt.toNat ++ (enc (wordN vl) ++ (enc rd.toNat ++ (enc bb.toNat ++ rest)))), 0)) := numR_back _ _ _ (by omega) (by omega)
  generalize hs : ((enc sq.toNat ++ (enc gt.toNat ++ (enc tt.toNat ++ (enc (wordN vl) ++ (enc rd.toNat ++ (enc bb.toNat ++ rest))))), 0) : RS) = s at e0 ⊢
  have e1 : r1 s = (gt.toNat, (enc tt.toNat ++ (enc (wordN vl) ++ (enc rd.toNat ++ (enc bb.toNat ++ rest))), 0)) := by unfold r1; rw [e0]; exact numR_back _ _ _ (by omega) (by omega)
  have e2 : r2 s = (tt.toNat, (enc (wordN vl) ++ (enc rd.toNat ++ (enc bb.toNat ++ rest)), 0)) := by unfold r2; rw [e1]; exact numR_back _ _ _ (by omega) (by omega)
  have e3 : r3 s = (wordN vl, (enc rd.toNat ++ (enc bb.toNat ++ rest), 0)) := by unfold r3; rw [e2]; exact numR_back _ _ _ (by omega) (by omega)
  have e4 : r4 s = (rd.toNat, (enc bb.toNat ++ rest, 0)) := by unfold r4; rw [e3]; exact numR_back _ _ _ (by omega) (by omega)
  have e5 : r5 s = (bb.toNat, (rest, 0)) := by unfold r5; rw [e4]; exact numR_back _ _ _ (by omega) (by omega)
  refine ⟨?_, by rw [e5]⟩
  unfold recR
  rw [e0, e1, e2, e3, e4, e5]
  simp only [RecX.mk.injEq]
  exact ⟨by omega, by omega, by omega, i32of_word h4, by omega, by omega⟩
theorem some_back : ∀ (L : List RecX) (rest : List Int), (∀ x ∈ L, RcPos x) → someR L.length (L.flatMap recB ++ rest, 0) = (some L, (rest, 0))
  | [], rest, _ => rfl
  | x :: L, rest, h => by
    have hx := rec_back (h x List.mem_cons_self) (L.flatMap recB ++ rest)
    have hr := some_back L rest fun y hy => h y (List.mem_cons_of_mem _ hy)
    rw [List.flatMap_cons, List.append_assoc, List.length_cons, someR, hx.2, if_neg (by simp), hr, hx.1]
    rfl
theorem read_back {L : List RecX} (hr : rightL L = true) (hk : ∀ x ∈ L, RcOk x) (hn : L.length ≤ 1000) : readQ (putL L) = (L, 0) := by
  have hp := right_pos hr hk
  have e1 : putL L = enc L.length ++ (L.flatMap recB ++ []) := by unfold putL; rw [hr]; simp [recsB, encs]
  have e2 : r0 (putL L, 0) = (L.length, (L.flatMap recB ++ [], 0)) := by rw [e1]; exact numR_back _ _ _ (by omega) (by omega)
  have e3 : takeR (putL L, 0) = (some L, ([], 0)) := by unfold takeR; rw [e2]; exact some_back L [] hp
  unfold readQ
  rw [e3, if_pos ⟨rfl, rfl, hr⟩]
  rfl

end Go.Proofs.Ytmcphlklknfbmaa
