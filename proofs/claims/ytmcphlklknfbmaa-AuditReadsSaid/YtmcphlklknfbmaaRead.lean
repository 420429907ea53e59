/- The walks of the methods Num and Lump of pack.Reader: they answer as numR and lumpR do. -/
import Derived.Test.YtmcphlklknfbmaaTake
import Derived.Test.YtmcphlklknfbmaaNew
namespace Go.Proofs.Ytmcphlklknfbmaa
set_option maxRecDepth 100000
open Go.RowKit

theorem numR_err {most : Nat} {st : RS} (h : st.2 ≠ 0) : numR most st = (0, st) := by simp [numR, h]
theorem numR_bad {most : Nat} {l : List Int} (h : (decFrom 0 0 l).2.2 ≠ 0) : numR most (l, 0) = (0, [], (decFrom 0 0 l).2.2) := by simp [numR, h]
theorem numR_long {most : Nat} {l : List Int} (h : (decFrom 0 0 l).2.2 = 0) (h2 : most < (decFrom 0 0 l).1) : numR most (l, 0) = (0, [], 22) := by simp [numR, h, h2]
theorem numR_ok {most : Nat} {l : List Int} (h : (decFrom 0 0 l).2.2 = 0) (h2 : ¬ most < (decFrom 0 0 l).1) : numR most (l, 0) = ((decFrom 0 0 l).1, l.drop (decFrom 0 0 l).2.1, 0) := by simp [numR, h, h2]

theorem Rd.cutBy {w : World} {B g t k c : Nat} {A : Option Addr} {l : List Int} (h : Rd w B g t (l, 0)) (hg : w.heap[g]? = some (.cells #[.slice A l.length c, .int .i64 0] t (0, 0)))
    (hn : l.length ≤ c) (hm : c ≤ maxLen) (hl : Lies w B A (u8s l)) (hk : k ≤ l.length) :
    Rd (w.setCell ⟨g, 0, none⟩ (.slice (if c = k then A else A.map (·.add k)) (l.length - k) (c - k))) B g t (l.drop k, 0) := by
  have hs := set_blk hg 0 (.slice (if c = k then A else A.map (·.add k)) (l.length - k) (c - k))
  refine ⟨h.le, ⟨if c = k then A else A.map (·.add k), c - k, ?_, ?_, ?_, ?_⟩, h.bytes.drop k⟩
  · rw [hs]; simp
  · simp only [List.length_drop]; omega
  · omega
  · have hd : Lies w B (if c = k then A else A.map (·.add k)) (u8s (l.drop k)) := by
      have hdr := hl.drop k
      rw [show u8s (l.drop k) = (u8s l).drop k from List.map_drop ..]
      split
      · intro hp
        rw [List.length_drop, u8s_length] at hp; omega
      · exact hdr
    have hle := h.le
    exact hd.keep fun b o hlt => World.cell?_setCell_other w _ _ _ (fun e => by injection e; omega)

set_option maxRecDepth 100000 in
set_option maxHeartbeats 1000000 in
theorem num_any (B g : Nat) (st : RS) (most : Nat) (w : World) (_hmost : most ≤ 18446744073709551615) (h : Rd w B g 155 st) :
    Calls Try.prog 94 #[.pointer (some ⟨g, 0, none⟩), .int .u64 most] w fun e w' =>
      e = .returned (.int .u64 (numR most st).1) ∧ Rd w' B g 155 (numR most st).2 ∧ w.grownBy w' (some g) := by
  obtain ⟨A, c, hg, hn, hm, hl⟩ := h.blk
  have h0 : w.cell? ⟨g, 0, none⟩ = some (.slice A st.1.length c) := cell_blk hg 0
  have h1 : w.cell? ⟨g, 1, none⟩ = some (.int .i64 st.2) := cell_blk hg 1
  have h2 : w.frozen? ⟨g, 0, none⟩ = false := frozen_blk hg 0
  by_cases he : st.2 = 0
  · obtain ⟨l, e0⟩ := st
    dsimp only at he h0 h1 hg hn hl
    subst he
    have hlen : l.length ≤ maxLen := by omega
    have HG := Lib.hid hg; clear hg
    have HR := Lib.hid h
    have hsz := decFrom_size l 0 0
    have hdl := decFrom_lt l 0 0
    have hde := decFrom_err l 0 0
    have hbad := @numR_bad most l
    have hlong := @numR_long most l
    have hok := @numR_ok most l
    generalize hd : decFrom 0 0 l = d at *
    obtain ⟨v, s, er⟩ := d
    dsimp only at hsz hdl hde hbad hlong hok
    have HD := Lib.hid hd; clear hd
    have HS := Lib.hid hsz; clear hsz
    have HE := Lib.hid hde; clear hde
    have HB := Lib.hid hbad; clear hbad
    have HL := Lib.hid hlong; clear hlong
    have HO := Lib.hid hok; clear hok
    by_cases her : er = 0
    · subst her
      obtain ⟨hs1, hs2⟩ := HS.out rfl
      by_cases hv : most < v
      · go_enter Try.func94, Try.ntmps94
        go_wp2_with fail
        refine (takeNum_any B A c l w hlen h.bytes hl).mono ?_
        rw [HD.out]
        rintro e w' ⟨rfl, rfl⟩
        go_wp2_with (go_at_call 103; go_must (refine (fail_any B g (l, 0) 22 _ HR.out).mono ?_); rintro e w' ⟨rfl, hr, hgr⟩)
        go_ret
        rw [HL.out (by trivial) hv]
        exact ⟨rfl, hr, hgr⟩
      · go_enter Try.func94, Try.ntmps94
        go_wp2_with fail
        refine (takeNum_any B A c l w hlen h.bytes hl).mono ?_
        rw [HD.out]
        rintro e w' ⟨rfl, rfl⟩
        have hc := Rd.cutBy (k := s) HR.out HG.out hn hm hl (by omega)
        have HC := Lib.hid hc; clear hc
        go_wp2_with fail
        all_goals
          go_ret
          rw [HO.out (by trivial) hv]
          refine ⟨rfl, ?_, grown_setCell (grown_refl _ _) _ _⟩
          have hc := HC.out
        · have hcs : c = s := by assumption
          rw [if_pos hcs, hcs, Nat.sub_self] at hc
          exact hc
        · have hcs : ¬ c = s := by assumption
          rw [if_neg hcs] at hc
          exact hc
    · have her2 : (er == 0) = false := by simpa using her
      go_enter Try.func94, Try.ntmps94
      go_wp2_with fail
      refine (takeNum_any B A c l w hlen h.bytes hl).mono ?_
      rw [HD.out]
      rintro e w' ⟨rfl, rfl⟩
      go_wp2_with (go_at_call 103; go_must (refine (fail_any B g (l, 0) er _ HR.out).mono ?_); rintro e w' ⟨rfl, hr, hgr⟩)
      go_ret
      rw [HB.out her]
      exact ⟨rfl, hr, hgr⟩
  · have he2 : (st.2 == 0) = false := by simpa using he
    have hR := Lib.hid (numR_err (most := most) he)
    have HG := Lib.hid hg; clear hg
    have HH := Lib.hid h; clear h
    go_enter Try.func94, Try.ntmps94
    go_wp2
    go_ret
    exact ⟨by rw [hR.out]; rfl, by rw [hR.out]; exact HH.out, grown_refl _ _⟩

theorem lumpR_err {most : Int} {st : RS} (h : (numR (max most 0).toNat st).2.2 ≠ 0) : lumpR most st = ([], (numR (max most 0).toNat st).2) := by simp [lumpR, h]
theorem lumpR_short {most : Int} {st : RS} (h : (numR (max most 0).toNat st).2.2 = 0) (h2 : (numR (max most 0).toNat st).2.1.length < (numR (max most 0).toNat st).1) : lumpR most st = ([], [], 21) := by simp [lumpR, h, h2]
theorem lumpR_ok {most : Int} {st : RS} (h : (numR (max most 0).toNat st).2.2 = 0) (h2 : ¬ (numR (max most 0).toNat st).2.1.length < (numR (max most 0).toNat st).1) :
    lumpR most st = ((numR (max most 0).toNat st).2.1.take (numR (max most 0).toNat st).1, (numR (max most 0).toNat st).2.1.drop (numR (max most 0).toNat st).1, 0) := by simp [lumpR, h, h2]

theorem num_int (B g : Nat) (st : RS) (most : Int) (w : World) (h0 : 0 ≤ most) (h1 : most ≤ 18446744073709551615) (h : Rd w B g 155 st) :
    Calls Try.prog 94 #[.pointer (some ⟨g, 0, none⟩), .int .u64 most] w fun e w' =>
      e = .returned (.int .u64 (numR most.toNat st).1) ∧ Rd w' B g 155 (numR most.toNat st).2 ∧ w.grownBy w' (some g) := by
  obtain ⟨m, rfl⟩ : ∃ m : Nat, most = m := ⟨most.toNat, by omega⟩
  exact num_any B g st m w (by omega) h

theorem numR_left (most : Nat) (st : RS) : (numR most st).2.1.length ≤ st.1.length := by
  unfold numR
  split
  · exact Nat.le_refl _
  · split
    · simp
    · split
      · simp
      · simp

theorem numR_val (most : Nat) (st : RS) : (numR most st).1 < 18446744073709551616 := by
  unfold numR
  split
  · simp
  · split
    · simp
    · split
      · simp
      · exact decFrom_lt _ _ _

theorem clone_n (B : Nat) (A : Option Addr) (c n : Nat) (l : List Int) (w : World) (hn : l.length = n) (hm : n ≤ 140737488355328) (hB : B ≤ w.heap.size) (hl : Lies w B A (u8s l)) :
    Calls Try.prog 92 #[.slice A n c] w fun e w' =>
      ∃ v, e = .returned v ∧ w'.ownsRow w.heap.size 5 1 v n (u8s l) ∧ Below w.heap.size w w' := by
  subst hn
  exact clone_any B A c l w hm hB hl

theorem own_base {w : World} {base base' e : Nat} {v : Value} {n : Nat} {xs : List Value} (h : w.ownsRow base e 1 v n xs) (hb : base' ≤ base) : w.ownsRow base' e 1 v n xs := by
  refine ⟨h.1, ?_⟩
  rcases h.2 with h2 | ⟨g, cap, cur, rfl, hbg, rest⟩
  · exact .inl h2
  · exact .inr ⟨g, cap, cur, rfl, by omega, rest⟩

theorem own_set {w : World} {base e g : Nat} {v : Value} {n : Nat} {xs : List Value} (h : w.ownsRow base e 1 v n xs) (hne : v.ownBlock ≠ some g) (i : Nat) (u : Value) : (w.setCell ⟨g, i, none⟩ u).ownsRow base e 1 v n xs :=
  h.kept (row := some g) (grown_setCell (grown_refl w _) i u) (.inr hne)


end Go.Proofs.Ytmcphlklknfbmaa
