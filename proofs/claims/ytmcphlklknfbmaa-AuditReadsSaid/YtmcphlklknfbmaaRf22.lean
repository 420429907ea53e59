/- Law 22's reference: AuditOf, AuditRight. -/
import Derived.Test.YtmcphlklknfbmaaPm22
namespace Go.Proofs.Ytmcphlklknfbmaa
set_option maxRecDepth 100000
open Go.RowKit

set_option maxHeartbeats 1000000 in
theorem refIn_any {B : Nat} {v : Value} {l : List Int} (c : Int) (w : World) (h : IntsV w B v l) (hm : l.length ≤ 1000) :
    Calls Try.prog 75 #[v, .int .i64 c] w fun e w' => e = .returned (.bool (l.contains c)) ∧ w = w' := by
  obtain ⟨A, cp, rfl, hl⟩ := h
  have HL := Lib.hid hl; clear hl
  obtain ⟨m, hml⟩ : ∃ m, l.length = m := ⟨_, rfl⟩
  have HM := Lib.hid hml
  rw [hml] at hm ⊢
  clear hml
  obtain ⟨res, hres⟩ : ∃ res, l.contains c = res := ⟨_, rfl⟩
  have HR := Lib.hid hres
  rw [hres]
  clear hres
  go_enter Try.func75, Try.ntmps75
  go_wp2_with fail
  go_loop [5] (fun i => ∃ k : Nat, k ≤ m ∧ i = .int .i64 k ∧ (l.take k).contains c = false) (fun i => m - (intOf i).toNat)
  case atStart => exact ⟨0, by omega, rfl, by simp⟩
  case round =>
    obtain ⟨k, hk, rfl, hp⟩ := hrel
    have HP := Lib.hid hp; clear hp
    by_cases hlt : k < m
    · have hkl : k < l.length := by rw [HM.out]; exact hlt
      obtain ⟨b, off, rfl, hb, c1⟩ := lie_int HL.out hkl
      have HMEM := Lib.hid (List.getElem_mem hkl)
      have HTK := Lib.hid (List.take_succ_eq_append_getElem hkl)
      obtain ⟨x, hx⟩ : ∃ x, l[k] = x := ⟨_, rfl⟩
      rw [hx] at c1 HMEM HTK
      clear hx
      by_cases hxc : x = c
      · have e1 : (x == c) = true := by simpa using hxc
        obtain rfl : res = true := by rw [← HR.out, List.contains_iff_mem, ← hxc]; exact HMEM.out
        clear hxc
        go_wp2_with fail
        go_ret
        exact ⟨rfl, rfl⟩
      · have e1 : (x == c) = false := by simpa using hxc
        have HK : Hid ((l.take (k + 1)).contains c = false) := Lib.hid (by rw [HTK.out]; have := HP.out; simp at this ⊢; exact ⟨this, fun e => hxc e.symm⟩)
        clear hxc
        go_wp2_with fail
        go_round
        case rel => exact ⟨k + 1, by omega, by go_num, HK.out⟩
        case measure => simp [intOf]; omega
    · obtain rfl : k = m := by omega
      obtain rfl : res = false := by rw [← HR.out]; have := HP.out; rwa [List.take_of_length_le (by rw [HM.out]; omega)] at this
      go_wp2_with fail
      go_ret
      exact ⟨rfl, rfl⟩

set_option maxRecDepth 100000 in
set_option maxHeartbeats 8000000 in
theorem refOf_any {w : World} {v vt : Value} {L : List RecX} {ls : List Int} (h : RcV w v L) (hn : L.length ≤ 100000) (ht : IntsV w w.heap.size vt ls) (htl : ls.length ≤ 1000) :
    Calls Try.prog 42 #[v, vt] w (ClR w (ofL ls L)) := by
  have HRC := Lib.hid h
  have HT := Lib.hid ht
  obtain ⟨A, c, rfl, hjunk⟩ := h
  clear hjunk
  obtain ⟨At, ct, rfl, _⟩ := ht
  obtain ⟨nt, hnt⟩ : ∃ n, ls.length = n := ⟨_, rfl⟩
  rw [hnt] at HT htl ⊢
  obtain ⟨n, hln⟩ : ∃ n, L.length = n := ⟨_, rfl⟩
  have HLN := Lib.hid hln
  have HNT := Lib.hid hnt
  rw [hln] at HRC hn ⊢
  clear hln hnt
  go_enter Try.func42, Try.ntmps42
  go_wp2_with fail
  go_loopw [5, 6] (fun u i wr => ∃ j : Nat, j ≤ n ∧ i = .int .i64 j ∧ OwnR wr w.heap.size u (ofL ls (L.take j)) ∧ Below w.heap.size w wr) (fun _ i _ => n - (intOf i).toNat)
  case atStart => exact ⟨0, Nat.zero_le _, rfl, OwnR.nil _ _, Below.refl _ _⟩
  case round =>
    obtain ⟨j, hj, rfl, ho, hb⟩ := hrel
    have HO := Lib.hid ho
    have HB := Lib.hid hb
    have hlen := Lib.hid (ofL_len ls (L.take j))
    obtain ⟨A5, c5, e5⟩ := ho.shape
    subst e5
    by_cases hjn : j < n
    · have hjl : j < L.length := by rw [HLN.out]; exact hjn
      have HL5 : Hid ((ofL ls (L.take j)).length ≤ j) := Lib.hid (by have := hlen.out; rw [List.length_take] at this; omega)
      obtain ⟨g, off, eA, hr⟩ := HRC.out.at' hjl
      subst eA
      have HTK := Lib.hid (List.take_succ_eq_append_getElem hjl)
      generalize L[j] = x at *
      have hr1 := rc_range_below hr hb
      have HR := Lib.hid hr1
      have d2 : wr.cell? ⟨g, off + j * 6 + 2, none⟩ = some (.int .i64 x.tt) := hr1 2 _ rfl
      have HC := Lib.hid (refIn_any x.tt wr (HT.out.below hb) (by rw [HNT.out]; omega))
      obtain ⟨bb, hbb⟩ : ∃ y, ls.contains x.tt = y := ⟨_, rfl⟩
      rw [hbb] at HC
      have HBB := Lib.hid hbb
      have i1 : (0 : Int) ≤ (j : Int) ∧ (j : Int) < n := by omega
      obtain ⟨n5, hn5⟩ : ∃ y, (ofL ls (L.take j)).length = y := ⟨_, rfl⟩
      rw [hn5] at HL5 ⊢
      have HN5 := Lib.hid hn5
      clear hr hr1 hjl hbb ho hb hn5
      go_wp2_with fail
      refine HC.out.mono ?_
      rintro e w2 ⟨rfl, rfl⟩
      cases bb with
      | true =>
        have HE := Lib.hid (ofL_yes (L := L.take j) HBB.out)
        rw [← HTK.out] at HE
        have HO1 : Hid (OwnR wr w.heap.size (.slice A5 n5 c5) (ofL ls (L.take j))) := Lib.hid (by rw [← HN5.out]; exact HO.out)
        go_wp2_with (first | (refine load_recMid rfl _ rfl g (off + j * 6) x rfl HR.out ?_; simp only [recA]) | (at_builtin; go_must (refine append_recs rfl (.tmp 20) (.tmp 25) rfl w.heap.size _ _ rfl (HO1.out.keep (below_alloc _ _)) wr.heap.size 0 1 [x] rfl (fresh_rec wr x) ?c1 ?c2 ?_)) | fail)
        case c1 => have := HN5.out; have := HL5.out; simp; omega
        case c2 => have := HB.out.size; simp; omega
        intro v3 w3 o3 g3 b3
        clear b3
        have HO3 : Hid (OwnR w3 w.heap.size v3 (ofL ls (L.take (j + 1)))) := Lib.hid (by rw [HE.out]; exact o3)
        have HB3 : Hid (Below w.heap.size w w3) := Lib.hid ((HB.out.trans ((below_alloc wr _).mono HB.out.size)).grown g3 (Nat.le_trans HB.out.size (below_alloc wr _).size) (fun k e => (World.ownsRow.lt HO1.out k e).1))
        clear o3 g3
        go_wp2_with fail
        go_roundw
        case rel => exact ⟨j + 1, by omega, by go_num, HO3.out, HB3.out⟩
        case measure => simp [intOf]; omega
      | false =>
        have HE := Lib.hid (ofL_no (L := L.take j) HBB.out)
        rw [← HTK.out] at HE
        go_wp2_with fail
        go_roundw
        case rel => exact ⟨j + 1, by omega, by go_num, by rw [HE.out, ← HN5.out]; exact HO.out, HB.out⟩
        case measure => simp [intOf]; omega
    · obtain rfl : n = j := by omega
      have hto : ofL ls (L.take n) = ofL ls L := by rw [List.take_of_length_le (by rw [HLN.out]; omega)]
      have HF : Hid (ClR w (ofL ls L) (.returned (.slice A5 (ofL ls (L.take n)).length c5)) wr) := Lib.hid ⟨_, rfl, by rw [← hto]; exact HO.out, HB.out⟩
      generalize (ofL ls (L.take n)).length = k at *
      clear hto ho hb
      go_wp2_with fail
      go_ret
      exact HF.out

end Go.Proofs.Ytmcphlklknfbmaa
