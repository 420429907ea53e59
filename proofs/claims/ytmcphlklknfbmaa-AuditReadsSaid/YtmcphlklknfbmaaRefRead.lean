/- The walks of the reference's Reader: it answers as numR and lumpR do. -/
import Derived.Test.YtmcphlklknfbmaaRef
import Derived.Test.YtmcphlklknfbmaaTake
namespace Go.Proofs.Ytmcphlklknfbmaa
set_option maxRecDepth 100000
open Go.RowKit

set_option maxRecDepth 100000 in
set_option maxHeartbeats 1000000 in
theorem refFail_any (B g : Nat) (st : RS) (e0 : Int) (w : World) (h : Rd w B g 143 st) :
    Calls Try.prog 95 #[.pointer (some ⟨g, 0, none⟩), .int .i64 e0] w fun e w' =>
      e = .returned (.tuple #[]) ∧ Rd w' B g 143 ([], e0) ∧ w.grownBy w' (some g) := by
  obtain ⟨A, c, hg, hn, hm, _⟩ := h.blk
  have h0 : w.cell? ⟨g, 0, none⟩ = some (.slice A st.1.length c) := cell_blk hg 0
  have h1 : w.cell? ⟨g, 1, none⟩ = some (.int .i64 st.2) := cell_blk hg 1
  have h2 : w.frozen? ⟨g, 0, none⟩ = false := frozen_blk hg 0
  have h3 : w.frozen? ⟨g, 1, none⟩ = false := frozen_blk hg 1
  have HG := Lib.hid hg; clear hg
  go_enter Try.func95, Try.ntmps95
  go_wp2
  go_end0
  have hs := set_blk (set_blk HG.out 0 (.slice none 0 0)) 1 (.int .i64 e0)
  exact ⟨rfl, ⟨h.le, ⟨none, 0, hs, Nat.le_refl _, Nat.zero_le _, Lies.nil⟩, fun u hu => by cases hu⟩, grown_setCell (grown_setCell (grown_refl _ _) _ _) _ _⟩

set_option maxRecDepth 100000 in
set_option maxHeartbeats 4000000 in
theorem refNum_any (B g : Nat) (st : RS) (most : Nat) (w : World) (_hmost : most ≤ 18446744073709551615) (h : Rd w B g 143 st) :
    Calls Try.prog 81 #[.pointer (some ⟨g, 0, none⟩), .int .u64 most] w fun e w' =>
      e = .returned (.int .u64 (numR most st).1) ∧ Rd w' B g 143 (numR most st).2 ∧ w.grownBy w' (some g) := by
  obtain ⟨A, c, hg, hn, hm, hl⟩ := h.blk
  have h0 : w.cell? ⟨g, 0, none⟩ = some (.slice A st.1.length c) := cell_blk hg 0
  have h1 : w.cell? ⟨g, 1, none⟩ = some (.int .i64 st.2) := cell_blk hg 1
  have h2 : w.frozen? ⟨g, 0, none⟩ = false := frozen_blk hg 0
  by_cases he : st.2 = 0
  · obtain ⟨l, e0⟩ := st
    dsimp only at he h0 h1 hg hn hl
    subst he
    have hlen : l.length ≤ 9223372036854775807 := by unfold maxLen at hm; omega
    have HG := Lib.hid hg; clear hg
    have HBY := Lib.hid h.bytes
    have HR := Lib.hid h; clear h
    have HL := Lib.hid hl; clear hl
    have HM := Lib.hid hm; clear hm
    have HB := Lib.hid (@numR_bad most l)
    have HLO := Lib.hid (@numR_long most l)
    have HO := Lib.hid (@numR_ok most l)
    go_enter Try.func81, Try.ntmps81
    go_wp2_with fail
    go_loop [5, 6] (fun x i => ∃ k n : Nat, k ≤ l.length ∧ i = .int .i64 k ∧ x = .int .u64 n ∧ decFrom 0 0 l = decFrom k n (l.drop k)) (fun _ i => l.length - (intOf i).toNat)
    case atStart => exact ⟨0, 0, by omega, rfl, rfl, rfl⟩
    case round =>
      obtain ⟨k, n, hk, rfl, rfl, hd⟩ := hrel
      by_cases hlt : k < l.length
      · obtain ⟨b, off, rfl, hb, hc⟩ := HL.out.cell (k := k) (by simpa [u8s] using hlt)
        have hcb := HBY.out l[k] (List.getElem_mem hlt)
        have hc' : w.cell? ⟨b, off + k, none⟩ = some (.int .u8 l[k]) := by simpa [u8s] using hc
        clear hc
        rw [List.drop_eq_getElem_cons hlt] at hd
        generalize l[k] = ck at *
        have HD := Lib.hid hd; clear hd
        obtain ⟨hc0, hc1⟩ := hcb
        have V1 := Lib.hid (show ((k = 0 ∧ ck = 128) ∨ 144115188075855871 < n) → numR most (l, 0) = (0, [], 20) from fun h => by
          have e : decFrom 0 0 l = (0, 0, 20) := by rw [HD.out, dec_bytes0 h]
          rw [HB.out (by rw [e]; decide), e])
        have V2 := Lib.hid (show ¬ (k = 0 ∧ ck = 128) → n ≤ 144115188075855871 → ck < 128 → most < n * 128 + ck.toNat % 128 → numR most (l, 0) = (0, [], 22) from fun h1 h2 h3 h4 => by
          have e : decFrom 0 0 l = (n * 128 + ck.toNat % 128, k + 1, 0) := by rw [HD.out, dec_last h1 h2 h3]
          exact HLO.out (by rw [e]) (by rw [e]; exact h4))
        have V3 := Lib.hid (show ¬ (k = 0 ∧ ck = 128) → n ≤ 144115188075855871 → ck < 128 → ¬ most < n * 128 + ck.toNat % 128 → numR most (l, 0) = (n * 128 + ck.toNat % 128, l.drop (k + 1), 0) from fun h1 h2 h3 h4 => by
          have e : decFrom 0 0 l = (n * 128 + ck.toNat % 128, k + 1, 0) := by rw [HD.out, dec_last h1 h2 h3]
          rw [HO.out (by rw [e]) (by rw [e]; exact h4), e])
        have hsh := fun h => shl7_val n ck h hc0 hc1
        have HS := Lib.hid hsh; clear hsh
        have hcut := Rd.cutBy (k := k + 1) HR.out HG.out hn HM.out HL.out (by omega)
        have HCUT := Lib.hid hcut; clear hcut
        have C0 := Lib.hid (show c = k + 1 → Rd (w.setCell ⟨g, 0, none⟩ (.slice (some ⟨b, off, none⟩) (l.length - (k + 1)) 0)) B g 143 (l.drop (k + 1), 0) from fun e => by
          have h := HCUT.out
          rw [if_pos e, e, Nat.sub_self] at h; exact h)
        have C1 := Lib.hid (show ¬ c = k + 1 → Rd (w.setCell ⟨g, 0, none⟩ (.slice (some ⟨b, off + (k + 1), none⟩) (l.length - (k + 1)) (c - (k + 1)))) B g 143 (l.drop (k + 1), 0) from fun e => by
          have h := HCUT.out
          rw [if_neg e] at h
          simpa [Addr.add] using h)
        go_wp2_with (go_at_call 95; go_must (refine (refFail_any B g (l, 0) _ _ HR.out).mono ?_); rintro e w' ⟨rfl, hr, hgr⟩)
        all_goals try simp only [beq_iff_eq, beq_eq_false_iff_ne, ne_eq] at *
        all_goals first
          | (go_ret; rw [V1.out (by omega)]; exact ⟨rfl, hr, hgr⟩)
          | (have hv := (Value.int.inj (HS.out (by omega))).2
             go_ret
             rw [V2.out (by omega) (by omega) (by omega) (by omega)]; exact ⟨rfl, hr, hgr⟩)
          | (go_roundw
             case rel => exact ⟨k + 1, _, by omega, by go_num, HS.out (by omega), by rw [HD.out, dec_more (by omega) (by omega) (by omega)]⟩
             case measure => simp [intOf]; omega)
          | (go_round
             case rel => exact ⟨k + 1, _, by omega, by go_num, HS.out (by omega), by rw [HD.out, dec_more (by omega) (by omega) (by omega)]⟩
             case measure => simp [intOf]; omega)
          | (have hv := (Value.int.inj (HS.out (by omega))).2
             go_ret
             rw [V3.out (by omega) (by omega) (by omega) (by omega)]
             refine ⟨congrArg Ending.returned (HS.out (by omega)), ?_, grown_setCell (grown_refl _ _) _ _⟩)
        · obtain rfl : k = 0 := by assumption
          exact C0.out (by omega)
        · obtain rfl : k = 0 := by assumption
          exact C1.out (by omega)
        · exact C0.out (by omega)
        · exact C1.out (by omega)
      · obtain rfl : k = l.length := by omega
        rw [List.drop_length] at hd
        have HD := Lib.hid hd; clear hd
        go_wp2_with (go_at_call 95; go_must (refine (refFail_any B g (l, 0) 21 _ HR.out).mono ?_); rintro e w' ⟨rfl, hr, hgr⟩)
        go_ret
        rw [HB.out (by rw [HD.out]; simp [decFrom]), HD.out]
        exact ⟨rfl, hr, hgr⟩
  · have he2 : (st.2 == 0) = false := by simpa using he
    have hR := Lib.hid (numR_err (most := most) he)
    have HG := Lib.hid hg; clear hg
    have HH := Lib.hid h; clear h
    go_enter Try.func81, Try.ntmps81
    go_wp2
    go_ret
    exact ⟨by rw [hR.out]; rfl, by rw [hR.out]; exact HH.out, grown_refl _ _⟩

theorem refNum_int (B g : Nat) (st : RS) (most : Int) (w : World) (h0 : 0 ≤ most) (h1 : most ≤ 18446744073709551615) (h : Rd w B g 143 st) :
    Calls Try.prog 81 #[.pointer (some ⟨g, 0, none⟩), .int .u64 most] w fun e w' =>
      e = .returned (.int .u64 (numR most.toNat st).1) ∧ Rd w' B g 143 (numR most.toNat st).2 ∧ w.grownBy w' (some g) := by
  obtain ⟨m, rfl⟩ : ∃ m : Nat, most = m := ⟨most.toNat, by omega⟩
  exact refNum_any B g st m w (by omega) h

/-- What the reference's look for a lump leaves: a piece of what lay there. -/
def LumpPost (B g : Nat) (a : List Int × RS) (w : World) (e : Ending) (w' : World) : Prop :=
  ∃ A n c, e = .returned (.slice A n c) ∧ a.1.length = n ∧ Lies w' B A (u8s a.1) ∧ Rd w' B g 143 a.2 ∧ w.grownBy w' (some g)


end Go.Proofs.Ytmcphlklknfbmaa
