/- The instruction that bytes begin with, by the reference. -/
import Derived.Test.YtmcniddpjpbghaaDoorTake2
import Derived.Test.YtmcniddpjpbghaaDoorRefRead
namespace Go.Proofs.YtmcniddpjpbghaaDoor
set_option maxRecDepth 100000
open Go.RowKit

def rOp (st : RS) : Nat × RS := numR 26 st
def rArg (st : RS) : Nat × RS := if argZ (rOp st).1 = 0 then (0, (rOp st).2) else numR 4294967295 (rOp st).2
def rArgI (st : RS) : Int := if argZ (rOp st).1 = 0 then 0 else i32of (rArg st).1
def rOk (st : RS) : Bool := decide ((rArg st).2.2 = 0) && rightB (rOp st).1 (rArgI st)
theorem argZ_zero : argZ 0 = 0 := by decide
theorem numR_26 (st : RS) : numR 26 st = numR 9223372036854775807 st ∨ ((numR 26 st).1 = 0 ∧ (numR 26 st).2.2 ≠ 0 ∧ takeOk st = false) := by
  by_cases he : st.2 = 0
  · obtain ⟨l, e⟩ := st
    dsimp only at he
    subst he
    by_cases hd : (decFrom 0 0 l).2.2 = 0
    · by_cases h1 : 26 < (decFrom 0 0 l).1
      · refine .inr ?_
        rw [numR_long hd h1]
        refine ⟨rfl, by simp, ?_⟩
        unfold takeOk argI argR opR
        by_cases h2 : 9223372036854775807 < (decFrom 0 0 l).1
        · rw [numR_long hd h2]; simp [argZ_zero]
        · rw [numR_ok hd h2]
          dsimp only
          have hk : knownB ((decFrom 0 0 l).1 : Nat) = false := by
            cases hk : knownB ((decFrom 0 0 l).1 : Nat) with
            | false => rfl
            | true => have := (knownB_iff _).1 hk; omega
          have hr : ∀ y, rightB ((decFrom 0 0 l).1 : Nat) y = false := fun y => by unfold rightB; rw [hk]; rfl
          rw [hr]; simp
      · refine .inl ?_
        rw [numR_ok hd h1, numR_ok hd (by omega)]
    · refine .inl ?_
      rw [numR_bad hd, numR_bad hd]
  · refine .inl ?_
    rw [numR_err he, numR_err he]
theorem rOk_eq (st : RS) : rOk st = takeOk st ∧ (takeOk st = true → (rOp st).1 = (opR st).1 ∧ rArgI st = argI st ∧ (rArg st).2 = (argR st).2) := by
  rcases numR_26 st with h | ⟨h1, h2, h3⟩
  · have e1 : rOp st = opR st := h
    have e2 : rArg st = argR st := by unfold rArg argR; rw [e1]
    have e3 : rArgI st = argI st := by unfold rArgI argI; rw [e1, e2]
    refine ⟨by unfold rOk takeOk; rw [e1, e2, e3], fun _ => ⟨by rw [e1], e3, by rw [e2]⟩⟩
  · have e1 : (rOp st).1 = 0 := h1
    have e2 : (rArg st).2.2 ≠ 0 := by
      unfold rArg
      rw [e1, if_pos (by decide)]; exact h2
    refine ⟨?_, fun h => by rw [h3] at h; cases h⟩
    unfold rOk; rw [h3]; simp [e2]
theorem rArgI_range (st : RS) : I32 (rArgI st) := by
  unfold rArgI
  split
  · unfold I32; omega
  · refine i32of_range ?_
    rename_i h
    unfold rArg
    rw [if_neg h]; exact numR_most _ _

set_option maxHeartbeats 1000000 in
theorem refWord_any (B g : Nat) (st : RS) (w : World) (h : Rd w B g 42 st) :
    Calls Tryd.prog 47 #[.pointer (some ⟨g, 0, none⟩)] w fun e w' =>
      e = .returned (.int .i32 (i32of (numR 4294967295 st).1)) ∧ Rd w' B g 42 (numR 4294967295 st).2 ∧ w.grownBy w' (some g) := by
  have hm := numR_most 4294967295 st
  have HN := Lib.hid (refNum_any B g st 4294967295 w (by omega) h)
  obtain ⟨a, ha⟩ : ∃ a, numR 4294967295 st = a := ⟨_, rfl⟩
  obtain ⟨m, st1⟩ := a
  rw [ha] at HN hm ⊢
  clear ha
  dsimp only at HN hm ⊢
  have ew : wrap32 (m : Int) = i32of m := by unfold wrap32 i32of; split <;> omega
  obtain ⟨x, hx⟩ : ∃ x, i32of m = x := ⟨_, rfl⟩
  rw [hx] at ew ⊢
  clear hx
  go_enter Tryd.func47, Tryd.ntmps47
  go_wp2_with fail
  refine HN.out.mono ?_
  rintro e w2 ⟨rfl, R2, g2⟩
  go_wp2_with fail
  go_ret
  exact ⟨by rw [← ew]; rfl, R2, g2⟩

/-- An instruction is stored into the result's cells: the reader stays. -/
theorem store_q {w W : World} {B g q t T : Nat} {st : RS} (a b : Value) {v0 v1 : Value} (hq : W.heap[q]? = some (.cells #[v0, v1] T (0, 0))) (hr : Rd W B g t st) (hg : w.grownBy W (some g)) (hle : w.heap.size ≤ q) (hne : g ≠ q) (hB : B ≤ q) :
    ((W.setCell ⟨q, 0, none⟩ a).setCell ⟨q, 1, none⟩ b).heap[q]? = some (.cells #[a, b] T (0, 0)) ∧ Rd ((W.setCell ⟨q, 0, none⟩ a).setCell ⟨q, 1, none⟩ b) B g t st ∧ w.grownBy ((W.setCell ⟨q, 0, none⟩ a).setCell ⟨q, 1, none⟩ b) (some g) := by
  refine ⟨by simpa using set_blk (set_blk hq 0 a) 1 b, hr.keep (grown_setCell (grown_setCell (grown_refl W (some q)) 0 a) 1 b) (fun e => hne (by injection e)) (fun k e => by injection e with e; omega), ?_⟩
  refine ⟨hg.os, hg.tape, hg.output, by simpa [World.setCell] using hg.size, fun k hk hn => ?_⟩
  rw [heap_set (by omega), heap_set (by omega)]
  exact hg.block k hk hn

set_option maxHeartbeats 1000000 in
theorem refTake1_any (B g : Nat) (st : RS) (w : World) (h : Rd w B g 42 st) :
    Calls Tryd.prog 20 #[.pointer (some ⟨g, 0, none⟩)] w fun e w' =>
      e = .returned (.tuple #[insV (if rOk st then ((rOp st).1 : Nat) else 0) (if rOk st then rArgI st else 0), .bool (rOk st)]) ∧ Rd w' B g 42 (rArg st).2 ∧ w.grownBy w' (some g) := by
  have hm := numR_most 26 st
  have hlt := h.lt
  have hle := h.le
  have hx := rArgI_range st
  obtain ⟨op, hop⟩ : ∃ op, (rOp st).1 = op := ⟨_, rfl⟩
  obtain ⟨st1, hst1⟩ : ∃ s, (rOp st).2 = s := ⟨_, rfl⟩
  obtain ⟨z, hz⟩ : ∃ z, argZ op = z := ⟨_, rfl⟩
  obtain ⟨x, hx2⟩ : ∃ x, rArgI st = x := ⟨_, rfl⟩
  obtain ⟨st2, hst2⟩ : ∃ s, (rArg st).2 = s := ⟨_, rfl⟩
  obtain ⟨r, hr0⟩ : ∃ r, rightB op x = r := ⟨_, rfl⟩
  obtain ⟨ok, hok⟩ : ∃ r, rOk st = r := ⟨_, rfl⟩
  have hz2 := argZ_range op
  have e0 : numR 26 st = (op, st1) := by rw [← hop, ← hst1]; rfl
  have e1 : Hid (z = 0 → x = 0 ∧ st2 = st1) := Lib.hid fun h0 => by
    rw [← hx2, ← hst2, ← hst1]; unfold rArgI rArg; rw [hop, hz, if_pos h0, if_pos h0]; exact ⟨rfl, rfl⟩
  have e2 : Hid (z ≠ 0 → x = i32of (numR 4294967295 st1).1 ∧ st2 = (numR 4294967295 st1).2) := Lib.hid fun h0 => by
    rw [← hx2, ← hst2, ← hst1]; unfold rArgI rArg; rw [hop, hz, if_neg h0, if_neg h0]; exact ⟨rfl, rfl⟩
  have e3 : Hid (ok = (decide (st2.2 = 0) && r)) := Lib.hid (by rw [← hok, ← hr0, ← hst2, ← hop, ← hx2]; rfl)
  have HR : Hid (∀ w, Calls Tryd.prog 11 #[insV op x] w fun e w' => e = .returned (.bool r) ∧ Below w.heap.size w w') := Lib.hid fun w => by rw [← hr0]; exact refRight_any op x w
  have HH : Hid (∀ w, Calls Tryd.prog 24 #[.int .i64 op] w fun e w' => e = .returned (.int .i64 z) ∧ w' = w) := Lib.hid fun w => by rw [← hz]; exact refArg_any op w
  rw [hop, hx2, hst2, hok]
  rw [e0] at hm
  rw [hx2] at hx
  rw [hz] at hz2
  have hb := below_alloc w (.cells #[.int .i64 0, .int .i32 0] 23)
  have hq0 := heap_alloc_new w (.cells #[.int .i64 0, .int .i32 0] 23)
  obtain ⟨w1, hw1⟩ : ∃ w1, w.alloc (.cells #[.int .i64 0, .int .i32 0] 23) = w1 := ⟨_, rfl⟩
  have hs1 : w1.heap.size = w.heap.size + 1 := by rw [← hw1]; simp
  rw [hw1] at hq0 hb
  have hb1 := below_alloc w1 (.cells #[.int .i64 0, .int .i32 0] 23)
  have hn1 := heap_alloc_new w1 (.cells #[.int .i64 0, .int .i32 0] 23)
  have hs2 : (w1.alloc (.cells #[.int .i64 0, .int .i32 0] 23)).heap.size = w1.heap.size + 1 := by simp
  obtain ⟨w2, hw2⟩ : ∃ w2, w1.alloc (.cells #[.int .i64 0, .int .i32 0] 23) = w2 := ⟨_, rfl⟩
  rw [hw2] at hn1 hb1 hs2
  obtain ⟨t4, ht4⟩ : ∃ t4, w1.heap.size = t4 := ⟨_, rfl⟩
  obtain ⟨q, hq⟩ : ∃ q, w.heap.size = q := ⟨_, rfl⟩
  rw [ht4] at hn1 hs1 hs2
  have hq2 : w2.heap[q]? = some (.cells #[.int .i64 0, .int .i32 0] 23 (0, 0)) := (hb1.block q (by omega)).trans (by rw [← hq]; exact hq0)
  have HR2 := Lib.hid ((h.below hb).below hb1)
  have HG2 := Lib.hid (grown_below (grown_refl w (some g)) (nextB hb hb1))
  have HQ2 := Lib.hid hq2
  have HT2 := Lib.hid hn1
  obtain ⟨hx0, hx1⟩ := hx
  have hqt : q < t4 := by omega
  have ht2 : t4 < w2.heap.size := by omega
  dsimp only at hm
  have E0 := Lib.hid e0
  unfold insV at HR ⊢
  clear hb h hop hst1 hz hx2 hst2 hr0 hok hb1 hq0 hn1 hq2 hs1 hs2 e0
  go_enter Tryd.func20, Tryd.ntmps20
  go_wp2_with fail
  refine (refNum_any B g st 26 w2 (by omega) HR2.out).mono ?_
  rw [E0.out]
  rintro e w3 ⟨rfl, R3, g3⟩
  clear hw1 hw2 ht4
  have HQ3 := Lib.hid ((g3.block q (by omega) (by intro e; injection e; omega)).trans HQ2.out)
  have ht3 := (g3.block t4 ht2 (by intro e; injection e; omega)).trans HT2.out
  have G3 := Lib.hid (grown_trans HG2.out g3)
  have c0 : w3.cell? ⟨t4, 0, none⟩ = some (.int .i64 0) := cell_blk ht3 0
  have f0 : w3.frozen? ⟨t4, 0, none⟩ = false := frozen_blk ht3 0
  have hq4 : q < w3.heap.size := (Array.getElem?_eq_some_iff.1 HQ3.out).1
  have ht4 : t4 < w3.heap.size := (Array.getElem?_eq_some_iff.1 ht3).1
  have HT3 := Lib.hid ht3; have RR3 := Lib.hid R3
  clear R3 g3 ht3 HR2 HG2 HQ2 HT2
  dsimp only
  have hgr := grown_setCell (grown_refl w3 (some t4)) 0 (.int .i64 op)
  have hgt : g ≠ t4 := by omega
  obtain ⟨w4, hw4⟩ : ∃ w4, w3.setCell ⟨t4, 0, none⟩ (.int .i64 op) = w4 := ⟨_, rfl⟩
  have RR4 := Lib.hid (RR3.out.keep hgr (fun e => hgt (by injection e)) (fun k e => by injection e with e; omega))
  have HQ4 := Lib.hid ((heap_set (w := w3) (q := t4) (i := 0) (j := q) (v := .int .i64 op) (by omega)).trans HQ3.out)
  have HT4 := Lib.hid (set_blk HT3.out 0 (.int .i64 op))
  have hG4 : w.grownBy (w3.setCell ⟨t4, 0, none⟩ (.int .i64 op)) (some g) := by
    refine ⟨G3.out.os, G3.out.tape, G3.out.output, by simpa [World.setCell] using G3.out.size, fun k hk hne => ?_⟩
    rw [heap_set (by omega)]
    exact G3.out.block k hk hne
  have G4 := Lib.hid hG4
  have hs4 : (w3.setCell ⟨t4, 0, none⟩ (.int .i64 op)).heap.size = w3.heap.size := by simp [World.setCell]
  rw [hw4] at RR4 HQ4 HT4 G4 hs4
  have k0 : w4.cell? ⟨t4, 0, none⟩ = some (.int .i64 op) := cell_blk HT4.out 0
  clear hgr HQ3 HT3 RR3 G3 hG4
  go_wp2_with fail
  refine (HH.out w4).mono ?_
  rintro e w' ⟨rfl, rfl⟩
  have ht5 : t4 < w'.heap.size := by omega
  have hq5 : q < w'.heap.size := by omega
  clear hw4 c0 f0 hs4 hq4 ht4 k0
  go_upto_if 12 with (fail)
  go_cut [] from 12 to 15 (fun wx => wx.heap[q]? = some (.cells #[.int .i64 0, .int .i32 0] 23 (0, 0)) ∧ wx.heap[t4]? = some (.cells #[.int .i64 op, .int .i32 x] 23 (0, 0)) ∧ Rd wx B g 42 st2 ∧ w.grownBy wx (some g))
  case first =>
    by_cases h0 : z = 0
    · subst h0
      obtain ⟨rfl, rfl⟩ := e1.out rfl
      go_wp2_with fail
      go_meet
      exact ⟨HQ4.out, by simpa using HT4.out, RR4.out, G4.out⟩
    · have hz3 : 0 < z := by omega
      obtain ⟨e4, e5⟩ := e2.out h0
      subst e5
      have HW := Lib.hid (refWord_any B g st1 w' RR4.out)
      rw [← e4] at HW
      have E4 := Lib.hid e4; clear e4
      have hi4 : w'.heap[t4]? = some (.cells #[.int .i64 op, .int .i32 0] 23 (0, 0)) := by simpa using HT4.out
      have HI4 := Lib.hid hi4
      clear hi4 HT4 hz2
      go_wp2_with fail
      refine HW.out.mono ?_
      rintro e w5 ⟨rfl, R5, g5⟩
      have hi5 := (g5.block t4 ht5 (by intro e; injection e; omega)).trans HI4.out
      have hq6 := (g5.block q hq5 (by intro e; injection e; omega)).trans HQ4.out
      have G5 := Lib.hid (grown_trans G4.out g5)
      have RR5 := Lib.hid R5
      have hc5 : w5.cell? ⟨t4, 1, none⟩ = some (.int .i32 0) := cell_blk hi5 1
      have hf5 : w5.frozen? ⟨t4, 1, none⟩ = false := frozen_blk hi5 1
      have HI5 := Lib.hid hi5; have HQ5 := Lib.hid hq6
      clear R5 g5 hi5 hq6
      have hqt : q ≠ t4 := by omega
      have hgt : g ≠ t4 := by omega
      have hBt : B ≤ t4 := by omega
      go_wp2_with fail
      go_meet
      have hgr := grown_setCell (grown_refl w5 (some t4)) 1 (.int .i32 x)
      refine ⟨(heap_set hqt).trans HQ5.out, by simpa using set_blk HI5.out 1 (.int .i32 x), RR5.out.keep hgr (fun e => hgt (by injection e)) (fun k e => by injection e with e; omega), ?_⟩
      refine ⟨G5.out.os, G5.out.tape, G5.out.output, by simpa [World.setCell] using G5.out.size, fun k hk hne => ?_⟩
      rw [heap_set (by omega)]
      exact G5.out.block k hk hne
  case rest =>
    obtain ⟨hq6, hi6, R6, G6⟩ := hcut
    have hs6 := (Array.getElem?_eq_some_iff.1 hq6).1
    obtain ⟨wx, hwx⟩ : ∃ wx, wx = wc := ⟨_, rfl⟩
    rw [← hwx] at hq6 hi6 R6 G6 hs6
    rw [← hwx]
    clear hwx HQ4 HT4 RR4 G4 e1 e2
    obtain ⟨l2, er⟩ := st2
    obtain ⟨A6, k6, hg6, _, _, _⟩ := R6.blk
    dsimp only at hg6
    have g1 : wx.cell? ⟨g, 1, none⟩ = some (.int .i64 er) := cell_blk hg6 1
    have i0 : wx.cell? ⟨t4, 0, none⟩ = some (.int .i64 op) := cell_blk hi6 0
    have i1 : wx.cell? ⟨t4, 1, none⟩ = some (.int .i32 x) := cell_blk hi6 1
    have q0 : wx.cell? ⟨q, 0, none⟩ = some (.int .i64 0) := cell_blk hq6 0
    have q1 : wx.cell? ⟨q, 1, none⟩ = some (.int .i32 0) := cell_blk hq6 1
    have z0 : wx.frozen? ⟨q, 0, none⟩ = false := frozen_blk hq6 0
    have z1 : wx.frozen? ⟨q, 1, none⟩ = false := frozen_blk hq6 1
    have HQ6 := Lib.hid hq6; have HI6 := Lib.hid hi6; have RR6 := Lib.hid R6; have GG6 := Lib.hid G6
    have E3 := Lib.hid (show ok = (decide (er = 0) && r) from e3.out)
    have HQ := Lib.hid hq
    have gq : g ≠ q := by omega
    have Bq : B ≤ q := by omega
    clear hq6 hi6 R6 G6 hg6 e3 hq
    by_cases her : er = 0
    · subst her
      have eok : r = ok := by rw [E3.out]; simp
      subst eok
      clear E3
      go_wp2_with fail
      refine (HR.out wx).mono ?_
      rintro e w7 ⟨rfl, hb7⟩
      have i7 := (hb7.block t4 (Array.getElem?_eq_some_iff.1 HI6.out).1).trans HI6.out
      have q7 := (hb7.block q hs6).trans HQ6.out
      have R7 := Lib.hid (RR6.out.below hb7)
      have G7 := Lib.hid (grown_below GG6.out (hb7.mono GG6.out.size))
      have j0 : w7.cell? ⟨t4, 0, none⟩ = some (.int .i64 op) := cell_blk i7 0
      have j1 : w7.cell? ⟨t4, 1, none⟩ = some (.int .i32 x) := cell_blk i7 1
      have p0 : w7.cell? ⟨q, 0, none⟩ = some (.int .i64 0) := cell_blk q7 0
      have p1 : w7.cell? ⟨q, 1, none⟩ = some (.int .i32 0) := cell_blk q7 1
      have y0 : w7.frozen? ⟨q, 0, none⟩ = false := frozen_blk q7 0
      have y1 : w7.frozen? ⟨q, 1, none⟩ = false := frozen_blk q7 1
      have Q7 := Lib.hid q7
      clear i7 q7 hb7 i0 i1 q0 q1 z0 z1 g1
      cases r with
      | false =>
        go_wp2_with fail
        try simp only [Exit.inBlock, Exit.then]
        obtain ⟨s1, s2, s3⟩ := store_q (.int .i64 0) (.int .i32 0) Q7.out R7.out G7.out (by have := HQ.out; omega) gq Bq
        refine ret_instr2 rfl rfl rfl s1 ?_
        exact ⟨rfl, s2, s3⟩
      | true =>
        go_wp2_with fail
        try simp only [Exit.inBlock, Exit.then]
        obtain ⟨s1, s2, s3⟩ := store_q (.int .i64 op) (.int .i32 x) Q7.out R7.out G7.out (by have := HQ.out; omega) gq Bq
        refine ret_instr2 rfl rfl rfl s1 ?_
        exact ⟨rfl, s2, s3⟩
    · have eok : ok = false := by rw [E3.out]; simp [her]
      subst eok
      have he2 : (er == 0) = false := by simpa using her
      clear E3
      go_wp2_with fail
      try simp only [Exit.inBlock, Exit.then]
      obtain ⟨s1, s2, s3⟩ := store_q (.int .i64 0) (.int .i32 0) HQ6.out RR6.out GG6.out (by have := HQ.out; omega) gq Bq
      refine ret_instr2 rfl rfl rfl s1 ?_
      exact ⟨rfl, s2, s3⟩

/-- What the reference's Take answers: the same; what it leaves is the same where there is one. -/
def RefTook (B g : Nat) (st : RS) (w : World) (e : Ending) (w' : World) : Prop :=
  e = .returned (.tuple #[insV (tOp st) (tArg st), .bool (takeOk st)]) ∧ (∃ s, Rd w' B g 42 s ∧ (takeOk st = true → s = tRest st)) ∧ w.grownBy w' (some g)
theorem refTake_any (B g : Nat) (st : RS) (w : World) (h : Rd w B g 42 st) :
    Calls Tryd.prog 20 #[.pointer (some ⟨g, 0, none⟩)] w (RefTook B g st w) := by
  obtain ⟨h1, h2⟩ := rOk_eq st
  have hH := refTake1_any B g st w h
  rw [h1] at hH
  refine hH.mono ?_
  clear hH h1
  rintro e w' ⟨rfl, hr, hg⟩
  unfold RefTook tOp tArg tRest
  generalize takeOk st = ok at *
  cases ok with
  | false =>
    simp only [Bool.false_eq_true, if_false]
    exact ⟨trivial, ⟨_, hr, fun ht => by cases ht⟩, hg⟩
  | true =>
    obtain ⟨a, b, c⟩ := h2 rfl
    simp only [if_true]
    rw [a, b]
    exact ⟨rfl, ⟨_, hr, fun _ => c⟩, hg⟩

end Go.Proofs.YtmcniddpjpbghaaDoor
