/- The walks of the methods Num and Lump of pack.Reader: they answer as numR and lumpR do. -/
import Derived.Test.YtcmjmbemlfcdjaaTake
import Derived.Test.YtcmjmbemlfcdjaaNew
namespace Go.Proofs.Ytcmjmbemlfcdjaa
open Go.RowKit

theorem numR_err {most : Nat} {st : RS} (h : st.2 ≠ 0) : numR most st = (0, st) := by simp [numR, h]
theorem numR_bad {most : Nat} {l : List Int} (h : (decFrom 0 0 l).2.2 ≠ 0) : numR most (l, 0) = (0, [], (decFrom 0 0 l).2.2) := by simp [numR, h]
theorem numR_long {most : Nat} {l : List Int} (h : (decFrom 0 0 l).2.2 = 0) (h2 : most < (decFrom 0 0 l).1) : numR most (l, 0) = (0, [], 22) := by simp [numR, h, h2]
theorem numR_ok {most : Nat} {l : List Int} (h : (decFrom 0 0 l).2.2 = 0) (h2 : ¬ most < (decFrom 0 0 l).1) : numR most (l, 0) = ((decFrom 0 0 l).1, l.drop (decFrom 0 0 l).2.1, 0) := by simp [numR, h, h2]

theorem Rd.cutBy {w : World} {B g t k c : Nat} {A : Option Addr} {l : List Int} (h : Rd w B g t (l, 0)) (hg : w.heap[g]? = some (.cells #[.slice A l.length c, .int .i64 0] t (0, 0)))
    (hn : l.length ≤ c) (hm : c ≤ maxLen) (hl : Lies w B A (u8s l)) (hk : k ≤ l.length) :
    Rd (w.setCell ⟨g, 0, none⟩ (.slice (if c = k then A else A.map (·.add k)) (l.length - k) (c - k))) B g t (l.drop k, 0) := by
  have hs := set_blk hg 0 (.slice (if c = k then A else A.map (·.add k)) (l.length - k) (c - k))
  refine ⟨h.le, ⟨if c = k then A else A.map (·.add k), c - k, ?_, ?_, ?_, ?_⟩, h.bytes.drop k⟩
  · rw [hs]; simp
  · simp only [List.length_drop]; omega
  · omega
  · have hd : Lies w B (if c = k then A else A.map (·.add k)) (u8s (l.drop k)) := by
      have hdr := hl.drop k
      rw [show u8s (l.drop k) = (u8s l).drop k from List.map_drop ..]
      split
      · intro hp
        rw [List.length_drop, u8s_length] at hp; omega
      · exact hdr
    have hle := h.le
    exact hd.keep fun b o hlt => World.cell?_setCell_other w _ _ _ (fun e => by injection e; omega)

set_option maxHeartbeats 1000000 in
theorem num_any (B g : Nat) (st : RS) (most : Nat) (w : World) (_hmost : most ≤ 18446744073709551615) (h : Rd w B g 50 st) :
    Calls Try.prog 16 #[.pointer (some ⟨g, 0, none⟩), .int .u64 most] w fun e w' =>
      e = .returned (.int .u64 (numR most st).1) ∧ Rd w' B g 50 (numR most st).2 ∧ w.grownBy w' (some g) := by
  obtain ⟨A, c, hg, hn, hm, hl⟩ := h.blk
  have h0 : w.cell? ⟨g, 0, none⟩ = some (.slice A st.1.length c) := cell_blk hg 0
  have h1 : w.cell? ⟨g, 1, none⟩ = some (.int .i64 st.2) := cell_blk hg 1
  have h2 : w.frozen? ⟨g, 0, none⟩ = false := frozen_blk hg 0
  by_cases he : st.2 = 0
  · obtain ⟨l, e0⟩ := st
    dsimp only at he h0 h1 hg hn hl
    subst he
    have hlen : l.length ≤ maxLen := by omega
    have HG := Lib.hid hg; clear hg
    have HR := Lib.hid h
    have hsz := decFrom_size l 0 0
    have hdl := decFrom_lt l 0 0
    have hde := decFrom_err l 0 0
    have hbad := @numR_bad most l
    have hlong := @numR_long most l
    have hok := @numR_ok most l
    generalize hd : decFrom 0 0 l = d at *
    obtain ⟨v, s, er⟩ := d
    dsimp only at hsz hdl hde hbad hlong hok
    have HD := Lib.hid hd; clear hd
    have HS := Lib.hid hsz; clear hsz
    have HE := Lib.hid hde; clear hde
    have HB := Lib.hid hbad; clear hbad
    have HL := Lib.hid hlong; clear hlong
    have HO := Lib.hid hok; clear hok
    by_cases her : er = 0
    · subst her
      obtain ⟨hs1, hs2⟩ := HS.out rfl
      by_cases hv : most < v
      · go_enter Try.func16, Try.ntmps16
        go_wp2_with fail
        refine (takeNum_any B A c l w hlen h.bytes hl).mono ?_
        rw [HD.out]
        rintro e w' ⟨rfl, rfl⟩
        go_wp2_with (go_at_call 22; go_must (refine (fail_any B g (l, 0) 22 _ HR.out).mono ?_); rintro e w' ⟨rfl, hr, hgr⟩)
        go_ret
        rw [HL.out (by trivial) hv]
        exact ⟨rfl, hr, hgr⟩
      · go_enter Try.func16, Try.ntmps16
        go_wp2_with fail
        refine (takeNum_any B A c l w hlen h.bytes hl).mono ?_
        rw [HD.out]
        rintro e w' ⟨rfl, rfl⟩
        have hc := Rd.cutBy (k := s) HR.out HG.out hn hm hl (by omega)
        have HC := Lib.hid hc; clear hc
        go_wp2_with fail
        all_goals
          go_ret
          rw [HO.out (by trivial) hv]
          refine ⟨rfl, ?_, grown_setCell (grown_refl _ _) _ _⟩
          have hc := HC.out
        · have hcs : c = s := by assumption
          rw [if_pos hcs, hcs, Nat.sub_self] at hc
          exact hc
        · have hcs : ¬ c = s := by assumption
          rw [if_neg hcs] at hc
          exact hc
    · have her2 : (er == 0) = false := by simpa using her
      go_enter Try.func16, Try.ntmps16
      go_wp2_with fail
      refine (takeNum_any B A c l w hlen h.bytes hl).mono ?_
      rw [HD.out]
      rintro e w' ⟨rfl, rfl⟩
      go_wp2_with (go_at_call 22; go_must (refine (fail_any B g (l, 0) er _ HR.out).mono ?_); rintro e w' ⟨rfl, hr, hgr⟩)
      go_ret
      rw [HB.out her]
      exact ⟨rfl, hr, hgr⟩
  · have he2 : (st.2 == 0) = false := by simpa using he
    have hR := Lib.hid (numR_err (most := most) he)
    have HG := Lib.hid hg; clear hg
    have HH := Lib.hid h; clear h
    go_enter Try.func16, Try.ntmps16
    go_wp2
    go_ret
    exact ⟨by rw [hR.out]; rfl, by rw [hR.out]; exact HH.out, grown_refl _ _⟩

theorem lumpR_err {most : Int} {st : RS} (h : (numR (max most 0).toNat st).2.2 ≠ 0) : lumpR most st = ([], (numR (max most 0).toNat st).2) := by simp [lumpR, h]
theorem lumpR_short {most : Int} {st : RS} (h : (numR (max most 0).toNat st).2.2 = 0) (h2 : (numR (max most 0).toNat st).2.1.length < (numR (max most 0).toNat st).1) : lumpR most st = ([], [], 21) := by simp [lumpR, h, h2]
theorem lumpR_ok {most : Int} {st : RS} (h : (numR (max most 0).toNat st).2.2 = 0) (h2 : ¬ (numR (max most 0).toNat st).2.1.length < (numR (max most 0).toNat st).1) :
    lumpR most st = ((numR (max most 0).toNat st).2.1.take (numR (max most 0).toNat st).1, (numR (max most 0).toNat st).2.1.drop (numR (max most 0).toNat st).1, 0) := by simp [lumpR, h, h2]

theorem num_int (B g : Nat) (st : RS) (most : Int) (w : World) (h0 : 0 ≤ most) (h1 : most ≤ 18446744073709551615) (h : Rd w B g 50 st) :
    Calls Try.prog 16 #[.pointer (some ⟨g, 0, none⟩), .int .u64 most] w fun e w' =>
      e = .returned (.int .u64 (numR most.toNat st).1) ∧ Rd w' B g 50 (numR most.toNat st).2 ∧ w.grownBy w' (some g) := by
  obtain ⟨m, rfl⟩ : ∃ m : Nat, most = m := ⟨most.toNat, by omega⟩
  exact num_any B g st m w (by omega) h

theorem numR_left (most : Nat) (st : RS) : (numR most st).2.1.length ≤ st.1.length := by
  unfold numR
  split
  · exact Nat.le_refl _
  · split
    · simp
    · split
      · simp
      · simp

theorem numR_val (most : Nat) (st : RS) : (numR most st).1 < 18446744073709551616 := by
  unfold numR
  split
  · simp
  · split
    · simp
    · split
      · simp
      · exact decFrom_lt _ _ _

theorem clone_n (B : Nat) (A : Option Addr) (c n : Nat) (l : List Int) (w : World) (hn : l.length = n) (hm : n ≤ 140737488355328) (hB : B ≤ w.heap.size) (hl : Lies w B A (u8s l)) :
    Calls Try.prog 21 #[.slice A n c] w fun e w' =>
      ∃ v, e = .returned v ∧ w'.ownsRow w.heap.size 5 1 v n (u8s l) ∧ Below w.heap.size w w' := by
  subst hn
  exact clone_any B A c l w hm hB hl

theorem own_base {w : World} {base base' e : Nat} {v : Value} {n : Nat} {xs : List Value} (h : w.ownsRow base e 1 v n xs) (hb : base' ≤ base) : w.ownsRow base' e 1 v n xs := by
  refine ⟨h.1, ?_⟩
  rcases h.2 with h2 | ⟨g, cap, cur, rfl, hbg, rest⟩
  · exact .inl h2
  · exact .inr ⟨g, cap, cur, rfl, by omega, rest⟩

theorem own_set {w : World} {base e g : Nat} {v : Value} {n : Nat} {xs : List Value} (h : w.ownsRow base e 1 v n xs) (hne : v.ownBlock ≠ some g) (i : Nat) (u : Value) : (w.setCell ⟨g, i, none⟩ u).ownsRow base e 1 v n xs :=
  h.kept (row := some g) (grown_setCell (grown_refl w _) i u) (.inr hne)

set_option maxHeartbeats 2000000 in
theorem lump_any (B g : Nat) (st : RS) (most : Int) (w : World) (hmost : -9223372036854775808 ≤ most ∧ most ≤ 9223372036854775807) (hbig : st.1.length ≤ 140737488355328) (h : Rd w B g 50 st) :
    Calls Try.prog 14 #[.pointer (some ⟨g, 0, none⟩), .int .i64 most] w fun e w' =>
      ∃ v, e = .returned v ∧ w'.ownsRow w.heap.size 5 1 v (lumpR most st).1.length (u8s (lumpR most st).1) ∧ Rd w' B g 50 (lumpR most st).2 ∧ w.grownBy w' (some g) := by
  obtain ⟨hm0, hm1⟩ := hmost
  have hgw := h.lt
  have E := Lib.hid (@lumpR_err most st)
  have S := Lib.hid (@lumpR_short most st)
  have O := Lib.hid (@lumpR_ok most st)
  have hle := numR_left (max most 0).toNat st
  have hval := numR_val (max most 0).toNat st
  have HH := Lib.hid h; clear h
  have en := Lib.hid (show most < 0 → (0 : Int).toNat = (max most 0).toNat from fun h => by rw [Int.max_eq_right (by omega)])
  have ep := Lib.hid (show 0 ≤ most → most.toNat = (max most 0).toNat from fun h => by rw [Int.max_eq_left h])
  rcases Int.lt_or_le most 0 with hneg | hpos
  case' inl =>
    go_enter Try.func14, Try.ntmps14
    go_wp2_with fail
    refine (num_int B g st 0 w (by omega) (by omega) HH.out).mono ?_
    rw [en.out hneg]
  case' inr =>
    go_enter Try.func14, Try.ntmps14
    go_wp2_with fail
    refine (num_int B g st most w (by omega) (by omega) HH.out).mono ?_
    rw [ep.out hpos]
  all_goals
    generalize numR (max most 0).toNat st = a at *
    obtain ⟨x, l, er⟩ := a
    dsimp only at hle hval
    rintro e w1 ⟨rfl, hr, hgr⟩
    obtain ⟨A, c, hg, hn, hm, hl⟩ := hr.blk
    dsimp only at hn hl hg
    have h0 : w1.cell? ⟨g, 0, none⟩ = some (.slice A l.length c) := cell_blk hg 0
    have h1 : w1.cell? ⟨g, 1, none⟩ = some (.int .i64 er) := cell_blk hg 1
    have h2 : w1.frozen? ⟨g, 0, none⟩ = false := frozen_blk hg 0
    have HG := Lib.hid hg; clear hg
    have HR := Lib.hid hr; clear hr
    by_cases he : er = 0
    · subst he
      by_cases hsh : l.length < x
      · go_wp2_with (go_at_call 22; go_must (refine (fail_any B g (l, 0) 21 _ HR.out).mono ?_); rintro e w' ⟨rfl, hr, hgr2⟩)
        go_ret
        rw [S.out (by trivial) hsh]
        exact ⟨_, rfl, World.ownsRow_nil _ _ _ _, hr, grown_trans hgr hgr2⟩
      · have hlt : (l.take x).length = x := by rw [List.length_take]; omega
        have hclone := clone_n B A c x (l.take x) w1 hlt (by omega) (by have := HR.out.lt; have := HR.out.le; omega) (by rw [show u8s (l.take x) = (u8s l).take x from List.map_take ..]; exact hl.take x)
        have HC := Lib.hid hclone; clear hclone
        go_wp2_with fail
        refine HC.out.mono ?_
        rintro e w2 ⟨v, rfl, hown, hbel⟩
        have hg1 := HR.out.lt
        have hR2 : Rd w2 B g 50 (l, 0) := HR.out.keep (row := none) ⟨hbel.os, hbel.tape, hbel.output, hbel.size, fun k hk _ => hbel.block k hk⟩ (by simp) (fun k hk => by cases hk)
        have hG2 := (hbel.block g hg1).trans HG.out
        have hl2 := hl.keep (w' := w2) (fun b o hlt => World.cell?_of_block (w := w1) (hbel.block b (by have := HR.out.le; omega)))
        have h0' : w2.cell? ⟨g, 0, none⟩ = some (.slice A l.length c) := cell_blk hG2 0
        have h2' : w2.frozen? ⟨g, 0, none⟩ = false := frozen_blk hG2 0
        have hcut := Rd.cutBy (k := x) hR2 hG2 hn hm hl2 (by omega)
        have HCUT := Lib.hid hcut; clear hcut
        have HOWN := Lib.hid hown; clear hown
        have HG2 := Lib.hid hG2; clear hG2 hl2 hR2 h0 h1 h2
        have hBS := hbel.size
        go_wp2_with fail
        all_goals
          go_ret
          rw [O.out (by trivial) hsh]
          dsimp only
          refine ⟨_, rfl, ?_, ?_, grown_setCell (grown_below hgr ?_) _ _⟩
          · rw [hlt]
            refine own_set (own_base HOWN.out ?_) ?_ _ _
            · exact hgr.size
            · have := HOWN.out.lt
              intro e
              have := (this g e).1
              omega
          · first
              | (have hcs : c = x := by assumption
                 have hc := HCUT.out
                 rw [if_pos hcs, hcs, Nat.sub_self] at hc
                 exact hc)
              | (have hcs : ¬ c = x := by assumption
                 have hc := HCUT.out
                 rw [if_neg hcs] at hc
                 exact hc)
          · exact hbel.mono hgr.size
    · have he2 : (er == 0) = false := by simpa using he
      go_wp2
      go_ret
      rw [E.out he]
      exact ⟨_, rfl, World.ownsRow_nil _ _ _ _, HR.out, hgr⟩

end Go.Proofs.Ytcmjmbemlfcdjaa
