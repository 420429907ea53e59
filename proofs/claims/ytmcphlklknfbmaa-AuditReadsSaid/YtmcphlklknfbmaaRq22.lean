/- Law 22's reference: AuditRead answers as Read does. -/
import Derived.Test.YtmcphlklknfbmaaRb22
namespace Go.Proofs.Ytmcphlklknfbmaa
set_option maxRecDepth 100000
open Go.RowKit

theorem refWord_any (B g : Nat) (st : RS) (w : World) (h : Rd w B g 143 st) :
    Calls Try.prog 82 #[.pointer (some ⟨g, 0, none⟩)] w fun e w' =>
      e = .returned (.int .i32 (i32of (numR 4294967295 st).1)) ∧ Rd w' B g 143 (numR 4294967295 st).2 ∧ w.grownBy w' (some g) := by
  have HN := Lib.hid (refNum_any B g st 4294967295 w (by omega) h)
  have m3 := numR_most 4294967295 st
  generalize (numR 4294967295 st).2 = s at *
  generalize (numR 4294967295 st).1 = n3 at *
  have w3 : i32of n3 = wrap32 (n3 : Int) := by unfold i32of wrap32; split <;> omega
  rw [w3]
  clear h w3
  go_enter Try.func82, Try.ntmps82
  go_wp2_with fail
  refine HN.out.mono ?_
  rintro e w1 ⟨rfl, r1', g1⟩
  have R1 := Lib.hid r1'; have G1 := Lib.hid g1
  clear r1' g1
  go_wp2_with fail
  go_ret
  exact ⟨rfl, R1.out, G1.out⟩
/-- A reader at block g and a record at block k, behind it. -/
structure BoxS (w0 wi : World) (g k : Nat) (s : RS) (cs : Array Value) : Prop where
  rd : Rd wi g g 143 s
  box : wi.heap[k]? = some (.cells cs 59 (0, 0))
  gr : w0.grownBy wi (some g)
  lt : g < k
  new : w0.heap.size ≤ k
section
variable {w0 wi : World} {g k : Nat} {s : RS} {cs : Array Value}
theorem BoxS.num (h : BoxS w0 wi g k s cs) (most : Nat) (hm : most ≤ 18446744073709551615) :
    Calls Try.prog 81 #[.pointer (some ⟨g, 0, none⟩), .int .u64 most] wi fun e w' => e = .returned (.int .u64 (numR most s).1) ∧ BoxS w0 w' g k (numR most s).2 cs := by
  refine (refNum_any g g s most wi hm h.rd).mono ?_
  rintro e w' ⟨rfl, hr, hg⟩
  have hk := (Array.getElem?_eq_some_iff.1 h.box).1
  have hlt := h.lt
  exact ⟨rfl, hr, (hg.block k hk (fun e => by injection e with e; omega)).trans h.box, grown_trans h.gr hg, h.lt, h.new⟩
theorem BoxS.word (h : BoxS w0 wi g k s cs) :
    Calls Try.prog 82 #[.pointer (some ⟨g, 0, none⟩)] wi fun e w' => e = .returned (.int .i32 (i32of (numR 4294967295 s).1)) ∧ BoxS w0 w' g k (numR 4294967295 s).2 cs := by
  refine (refWord_any g g s wi h.rd).mono ?_
  rintro e w' ⟨rfl, hr, hg⟩
  have hk := (Array.getElem?_eq_some_iff.1 h.box).1
  have hlt := h.lt
  exact ⟨rfl, hr, (hg.block k hk (fun e => by injection e with e; omega)).trans h.box, grown_trans h.gr hg, h.lt, h.new⟩
theorem BoxS.put (h : BoxS w0 wi g k s cs) (i : Nat) (u : Value) : BoxS w0 (wi.setCell ⟨k, i, none⟩ u) g k s (cs.setIfInBounds i u) := by
  have hlt := h.lt
  have hnew := h.new
  refine ⟨h.rd.keep (grown_setCell (grown_refl wi (some k)) i u) (fun e => by injection e with e; omega) (fun q e => by injection e with e; omega), set_blk h.box i u, ?_, h.lt, h.new⟩
  refine ⟨h.gr.os, h.gr.tape, h.gr.output, by have := h.gr.size; simpa using this, fun q hq hne => ?_⟩
  rw [Below.heap_setCell _ _ _ _ (by show q ≠ k; omega)]
  exact h.gr.block q hq hne
end
theorem numR_up {a b : Nat} (hab : a ≤ b) {l : List Int} (h : (numR a (l, 0)).2.2 = 0) : numR a (l, 0) = numR b (l, 0) := by
  by_cases e1 : (decFrom 0 0 l).2.2 = 0
  · by_cases e2 : a < (decFrom 0 0 l).1
    · rw [numR_long e1 e2] at h
      exact absurd h (by decide)
    · rw [numR_ok e1 e2, numR_ok e1 (by omega)]
  · rw [numR_bad e1] at h
    exact absurd h e1
theorem someR_none : ∀ (n : Nat) (st : RS), (someR n st).1 = none → (someR n st).2.2 ≠ 0
  | 0, st, h => by cases h
  | n + 1, st, h => by
    unfold someR at h ⊢
    split at h
    · rename_i he
      rw [if_pos he]
      exact he
    · rename_i he
      rw [if_neg he]
      refine someR_none n _ ?_
      cases hq : (someR n (r5 st).2).1 with
      | none => rfl
      | some M => rw [hq] at h; cases h
theorem readQ_err {l : List Int} (h : (takeR (l, 0)).2.2 ≠ 0) : readQ l = ([], 20) := by
  unfold readQ
  exact if_neg fun e => h e.1
/-- What the reference begins with. -/
theorem ref_start {l : List Int} (hm : l.length ≤ 90000) :
    ((someR (numR 2147483648 (l, 0)).1 (numR 2147483648 (l, 0)).2).2.2 ≠ 0 → readQ l = ([], 20)) ∧
    ∀ L s, someR (numR 2147483648 (l, 0)).1 (numR 2147483648 (l, 0)).2 = (some L, s) → s.2 = 0 → readQ l = if s.1 = [] ∧ rightL L = true then (L, 0) else ([], 20) := by
  by_cases e : (numR 2147483648 (l, 0)).2.2 = 0
  · have e1 := numR_up (b := 9223372036854775807) (by omega) e
    have e2 : someR (numR 2147483648 (l, 0)).1 (numR 2147483648 (l, 0)).2 = takeR (l, 0) := by rw [e1]; rfl
    rw [e2]
    refine ⟨readQ_err, fun L s h hs => ?_⟩
    unfold readQ
    rw [h]
    by_cases hb : s.1 = [] ∧ rightL L = true
    · rw [if_pos hb, if_pos ⟨hs, hb.1, hb.2⟩]; rfl
    · rw [if_neg hb, if_neg fun x => hb ⟨x.2.1, x.2.2⟩]
  · have hz : (numR 2147483648 (l, 0)).1 = 0 := by
      by_cases e1 : (decFrom 0 0 l).2.2 = 0
      · by_cases e2 : 2147483648 < (decFrom 0 0 l).1
        · rw [numR_long e1 e2]
        · rw [numR_ok e1 e2] at e; exact absurd rfl e
      · rw [numR_bad e1]
    rw [hz]
    refine ⟨fun _ => readQ_err ?_, fun L s h hs => ?_⟩
    · unfold takeR
      by_cases e1 : (decFrom 0 0 l).2.2 = 0
      · by_cases e2 : 2147483648 < (decFrom 0 0 l).1
        · by_cases e3 : 9223372036854775807 < (decFrom 0 0 l).1
          · have h0 : r0 (l, 0) = (0, [], 22) := numR_long e1 e3
            rw [h0]; simp [someR]
          · have h0 : r0 (l, 0) = ((decFrom 0 0 l).1, l.drop (decFrom 0 0 l).2.1, 0) := numR_ok e1 e3
            rw [h0]
            refine someR_none _ _ ?_
            cases hq : (someR (decFrom 0 0 l).1 (l.drop (decFrom 0 0 l).2.1, 0)).1 with
            | none => rfl
            | some M =>
              have h1 := someR_left _ _ M hq
              have h2 := someR_len _ _ M hq
              have h3 : (l.drop (decFrom 0 0 l).2.1).length ≤ l.length := by simp
              simp only at h1
              omega
        · rw [numR_ok e1 e2] at e; exact absurd rfl e
      · have h0 : r0 (l, 0) = (0, [], (decFrom 0 0 l).2.2) := numR_bad e1
        rw [h0]; simp [someR]; exact e1
    · have h : ((some [] : Option (List RecX)), (numR 2147483648 (l, 0)).2) = (some L, s) := h
      injection h with _ h
      rw [← h] at hs
      exact absurd hs e
/-- How far the reference's loop has come. -/
def LoopR (n : Nat) (st : RS) (m j : Nat) (L : List RecX) (s : RS) : Prop :=
  (s.2 = 0 ∧ someR n st = ((someR (n - j) s).1.map (L ++ ·), (someR (n - j) s).2) ∧ s.1.length + j ≤ m) ∨ (s.2 ≠ 0 ∧ (someR n st).2.2 ≠ 0 ∧ j ≤ m + 1)
theorem LoopR.step {n : Nat} {st s : RS} {m j : Nat} {L : List RecX} (hj : j < n) (hs : s.2 = 0) (h : LoopR n st m j L s) : LoopR n st m (j + 1) (L ++ [recR s]) (r5 s).2 := by
  rcases h with ⟨_, h1, h2⟩ | ⟨h1, _⟩
  · by_cases he : (r5 s).2.2 = 0
    · exact .inl ⟨he, someR_step hj h1 he, by have := r5_less he; omega⟩
    · have h3 := someR_stop hj h1 he
      exact .inr ⟨he, by rw [h3]; exact he, by omega⟩
  · exact absurd hs h1
theorem LoopR.le {n : Nat} {st s : RS} {m j : Nat} {L : List RecX} (h : LoopR n st m j L s) : j ≤ m + 1 := by
  rcases h with ⟨_, _, h⟩ | ⟨_, _, h⟩ <;> omega
theorem LoopR.start (n : Nat) (st : RS) (m : Nat) (hm : st.1.length ≤ m) (hn : st.2 ≠ 0 → n = 0) : LoopR n st m 0 [] st := by
  by_cases e : st.2 = 0
  · exact .inl ⟨e, by simp, by omega⟩
  · exact .inr ⟨e, by rw [hn e]; exact e, by omega⟩
set_option maxRecDepth 100000 in
set_option maxHeartbeats 16000000 in
theorem refARead_any {w : World} {A : Option Addr} {c : Nat} {l : List Int} (hm : l.length ≤ 90000) (hc1 : l.length ≤ c) (hc2 : c ≤ maxLen) (hl : Lies w w.heap.size A (u8s l)) (hb : IsBytes l) :
    Calls Try.prog 44 #[.slice A l.length c] w (ReadMade w (readQ l)) := by
  have hst := ref_start hm
  obtain ⟨Q, hQ⟩ : ∃ Q, readQ l = Q := ⟨_, rfl⟩
  rw [hQ] at hst ⊢
  have m0 := numR_most 2147483648 (l, 0)
  have hle := numR_left 2147483648 (l, 0)
  have hz : (numR 2147483648 (l, 0)).2.2 ≠ 0 → (numR 2147483648 (l, 0)).1 = 0 := fun e => by
    by_cases e1 : (decFrom 0 0 l).2.2 = 0
    · by_cases e2 : 2147483648 < (decFrom 0 0 l).1
      · rw [numR_long e1 e2]
      · rw [numR_ok e1 e2] at e; exact absurd rfl e
    · rw [numR_bad e1]
  obtain ⟨w1, hw1⟩ : ∃ y, y = w.alloc (.cells #[.slice A l.length c, .int .i64 0] 143) := ⟨_, rfl⟩
  obtain ⟨g, hg⟩ : ∃ y, w.heap.size = y := ⟨_, rfl⟩
  have hB1 : Below w.heap.size w w1 := by rw [hw1]; exact below_alloc w _
  have hR1 : Rd w1 g g 143 (l, 0) := ⟨Nat.le_refl _, ⟨A, c, by rw [hw1, ← hg]; exact heap_alloc_new w _, hc1, hc2, by rw [← hg]; exact hl.below hB1⟩, hb⟩
  have HN0 := Lib.hid (refNum_any g g (l, 0) 2147483648 w1 (by omega) hR1)
  have HSTART := Lib.hid (LoopR.start (numR 2147483648 (l, 0)).1 (numR 2147483648 (l, 0)).2 l.length hle hz)
  obtain ⟨n, hn⟩ : ∃ n, (numR 2147483648 (l, 0)).1 = n := ⟨_, rfl⟩
  obtain ⟨st, hs⟩ : ∃ s, (numR 2147483648 (l, 0)).2 = s := ⟨_, rfl⟩
  rw [hn, hs] at HN0 HSTART hst
  rw [hn] at m0
  obtain ⟨m, hml⟩ : ∃ m, l.length = m := ⟨_, rfl⟩
  rw [hml] at hm HSTART hw1 ⊢
  have HERR := Lib.hid hst.1; have HDONE := Lib.hid hst.2
  have HB1 := Lib.hid hB1; have HW1 := Lib.hid hw1; have HG := Lib.hid hg; have HM := Lib.hid hm
  have hs1 : g < w1.heap.size := hR1.lt
  clear hst hle hz hB1 hR1 hc1 hc2 hl hb hQ hn hs hml hw1 hg hm
  go_enter Try.func44, Try.ntmps44
  go_wp2_with fail
  rw [← HW1.out, HG.out]
  refine HN0.out.mono ?_
  rintro e w2 ⟨rfl, hr2, hg2⟩
  have HR2 := Lib.hid hr2
  have HG2 : Hid (Below w.heap.size w w2) := Lib.hid (HB1.out.grown hg2 HB1.out.size (fun k e => by injection e with e; rw [HG.out]; omega))
  clear hr2 hg2 hs1
  go_wp2_with fail
  go_loopw [5, 7] (fun x i wr => ∃ (j : Nat) (L : List RecX) (s : RS), j ≤ n ∧ i = .int .u64 j ∧ OwnR wr (g + 1) x L ∧ L.length = j ∧ Rd wr g g 143 s ∧ LoopR n st m j L s ∧ Below w.heap.size w wr) (fun _ i _ => n - (intOf i).toNat)
  case atStart => exact ⟨0, [], st, Nat.zero_le _, rfl, OwnR.nil _ _, rfl, HR2.out, HSTART.out, HG2.out⟩
  case round =>
    obtain ⟨j, L, s, hj, rfl, ho, hL, hr, hlp, hb⟩ := hrel
    have HO := Lib.hid ho; have HL := Lib.hid hL; have HR := Lib.hid hr; have HLP := Lib.hid hlp; have HB := Lib.hid hb
    obtain ⟨A5, c5, e5⟩ := ho.shape
    rw [hL] at e5
    subst e5
    obtain ⟨Ar, cr, hgr, _, _, _⟩ := hr.blk
    have r0c : wr.cell? ⟨g, 0, none⟩ = some (.slice Ar s.1.length cr) := cell_blk hgr 0
    have r1c : wr.cell? ⟨g, 1, none⟩ = some (.int .i64 s.2) := cell_blk hgr 1
    have hgl : g < wr.heap.size := hr.lt
    have hgw : w.heap.size ≤ wr.heap.size := hb.size
    by_cases he : s.2 = 0
    · have z1 : (s.2 == 0) = true := by simpa using he
      have z1' : (s.2 != 0) = false := by simpa using he
      by_cases hjn : j < n
      · have i1 : (0 : Int) ≤ (j : Int) ∧ (j : Int) < n := by omega
        have HNX := Lib.hid (LoopR.step hjn he hlp)
        have HJM := Lib.hid hlp.le
        have HX : Hid (recR s = ⟨((r0 s).1 : Int), ((r1 s).1 : Int), ((r2 s).1 : Int), i32of (r3 s).1, ((r4 s).1 : Int), ((r5 s).1 : Int)⟩) := Lib.hid rfl
        obtain ⟨kb, hkb⟩ : ∃ y, wr.heap.size = y := ⟨_, rfl⟩
        obtain ⟨w3, hw3⟩ : ∃ y, y = wr.alloc (.cells #[.int .i64 0, .int .i64 0, .int .i64 0, .int .i32 0, .int .i64 0, .int .i32 0] 59) := ⟨_, rfl⟩
        have B0 : BoxS wr w3 g kb s #[.int .i64 0, .int .i64 0, .int .i64 0, .int .i32 0, .int .i64 0, .int .i32 0] := by
          refine ⟨?_, ?_, ?_, by omega, by omega⟩
          · rw [hw3]; exact hr.below (below_alloc wr _)
          · rw [hw3, ← hkb]; exact heap_alloc_new wr _
          · rw [hw3]; exact World.grownBy_alloc wr _ _
        have m0' := numR_most 9223372036854775807 s
        have m1 := numR_most 9223372036854775807 (r0 s).2
        have m2 := numR_most 9223372036854775807 (r1 s).2
        have m4 := numR_most 9223372036854775807 (r3 s).2
        have m5 := numR_most 2147483647 (r4 s).2
        have HK0 := Lib.hid (B0.num 9223372036854775807 (by omega))
        have HK1 := Lib.hid (fun wa cs (h : BoxS wr wa g kb (r0 s).2 cs) => h.num 9223372036854775807 (by omega))
        have HK2 := Lib.hid (fun wa cs (h : BoxS wr wa g kb (r1 s).2 cs) => h.num 9223372036854775807 (by omega))
        have HK3 := Lib.hid (fun wa cs (h : BoxS wr wa g kb (r2 s).2 cs) => h.word)
        have HK4 := Lib.hid (fun wa cs (h : BoxS wr wa g kb (r3 s).2 cs) => h.num 9223372036854775807 (by omega))
        have HK5 := Lib.hid (fun wa cs (h : BoxS wr wa g kb (r4 s).2 cs) => h.num 2147483647 (by omega))
        have f0 : numR 9223372036854775807 s = r0 s := rfl
        have f1 : numR 9223372036854775807 (r0 s).2 = r1 s := rfl
        have f2 : numR 9223372036854775807 (r1 s).2 = r2 s := rfl
        have f3 : numR 4294967295 (r2 s).2 = r3 s := rfl
        have f4 : numR 9223372036854775807 (r3 s).2 = r4 s := rfl
        have f5 : numR 2147483647 (r4 s).2 = r5 s := rfl
        rw [f0] at HK0 m0'; rw [f1] at HK1 m1; rw [f2] at HK2 m2; rw [f3] at HK3; rw [f4] at HK4 m4; rw [f5] at HK5 m5
        clear f0 f1 f2 f3 f4 f5 B0 z1'
        generalize (r5 s).2 = s5 at *
        generalize (r4 s).2 = s4 at *
        generalize (r3 s).2 = s3 at *
        generalize (r2 s).2 = s2 at *
        generalize (r1 s).2 = s1 at *
        generalize (r0 s).2 = s0 at *
        generalize (r5 s).1 = n5 at *
        generalize (r4 s).1 = n4 at *
        generalize (r2 s).1 = n2 at *
        generalize (r1 s).1 = n1 at *
        generalize (r0 s).1 = n0 at *
        generalize i32of (r3 s).1 = v3 at *
        have HW3 := Lib.hid hw3; have HKB := Lib.hid hkb
        have HGK : Hid (g < kb) := Lib.hid (by omega)
        clear ho hr hlp hb he hL hgr hw3
        go_wp2_with fail
        rw [← HW3.out]
        clear hkb
        refine HK0.out.mono ?_
        rintro e wa ⟨rfl, hx0⟩
        have HX0 := Lib.hid (hx0.put 0 (.int .i64 (n0 : Int)))
        have q0 := cell_blk hx0.box 0
        have p0 := frozen_blk hx0.box 0
        simp at q0
        clear hx0
        go_wp2_with fail
        clear q0 p0
        refine (HK1.out _ _ HX0.out).mono ?_
        rintro e wb ⟨rfl, hx1⟩
        have HX1 := Lib.hid (hx1.put 1 (.int .i64 (n1 : Int)))
        have q1 := cell_blk hx1.box 1
        have p1 := frozen_blk hx1.box 1
        simp at q1
        clear hx1
        go_wp2_with fail
        clear q1 p1
        refine (HK2.out _ _ HX1.out).mono ?_
        rintro e wc ⟨rfl, hx2⟩
        have HX2 := Lib.hid (hx2.put 2 (.int .i64 (n2 : Int)))
        have q2 := cell_blk hx2.box 2
        have p2 := frozen_blk hx2.box 2
        simp at q2
        clear hx2
        go_wp2_with fail
        clear q2 p2
        refine (HK3.out _ _ HX2.out).mono ?_
        rintro e wd ⟨rfl, hx3⟩
        have HX3 := Lib.hid (hx3.put 3 (.int .i32 v3))
        have q3 := cell_blk hx3.box 3
        have p3 := frozen_blk hx3.box 3
        simp at q3
        clear hx3
        go_wp2_with fail
        clear q3 p3
        refine (HK4.out _ _ HX3.out).mono ?_
        rintro e wz ⟨rfl, hx4⟩
        have HX4 := Lib.hid (hx4.put 4 (.int .i64 (n4 : Int)))
        have q4 := cell_blk hx4.box 4
        have p4 := frozen_blk hx4.box 4
        simp at q4
        clear hx4
        go_wp2_with fail
        clear q4 p4
        refine (HK5.out _ _ HX4.out).mono ?_
        rintro e we ⟨rfl, hx5⟩
        have HX5 := Lib.hid (hx5.put 5 (.int .i32 (n5 : Int)))
        have q5 := cell_blk hx5.box 5
        have p5 := frozen_blk hx5.box 5
        clear hx5
        have HXR : Hid (recA (recR s) = #[.int .i64 (n0 : Int), .int .i64 (n1 : Int), .int .i64 (n2 : Int), .int .i32 v3, .int .i64 (n4 : Int), .int .i32 (n5 : Int)]) := Lib.hid (by rw [HX.out]; rfl)
        obtain ⟨x, hx⟩ : ∃ y, recR s = y := ⟨_, rfl⟩
        rw [hx] at HXR HNX
        obtain ⟨w9, hw9⟩ : ∃ y, y = we.setCell ⟨kb, 5, none⟩ (.int .i32 (n5 : Int)) := ⟨_, rfl⟩
        have HW9 := Lib.hid hw9
        have hb9 : w9.heap[kb]? = some (.cells (recA x) 59 (0, 0)) := by rw [hw9, HXR.out]; exact HX5.out.box
        have HB9 := Lib.hid hb9
        have HR9 : Hid (Rd w9 g g 143 s5) := Lib.hid (by rw [hw9]; exact HX5.out.rd)
        have HGR9 : Hid (wr.grownBy w9 (some g)) := Lib.hid (by rw [hw9]; exact HX5.out.gr)
        have HO9 : Hid (OwnR w9 (g + 1) (.slice A5 j c5) L) := Lib.hid (ownsRow_keep HO.out fun k e => HGR9.out.block k (World.ownsRow.lt HO.out k e).2 (fun e2 => by injection e2 with e2; have := (World.ownsRow.lt HO.out k e).1; omega))
        have HBB9 : Hid (Below w.heap.size w w9) := Lib.hid (HB.out.grown HGR9.out HB.out.size (fun k e => by injection e with e; rw [HG.out]; omega))
        have hs9 : kb < w9.heap.size := (Array.getElem?_eq_some_iff.1 hb9).1
        clear hw9 hb9 hx HX5
        go_upto_region 14 with (fail)
        rw [← HW9.out]
        clear q5 p5
        go_wp2_with (first | (refine load_recAt rfl _ rfl kb x rfl _ _ HB9.out ?_; simp only [recA]) | (at_builtin; go_must (refine append_recs rfl (.tmp 49) (.tmp 51) rfl (g + 1) _ _ rfl (HO9.out.keep (below_alloc _ _)) w9.heap.size 0 1 [x] rfl (fresh_rec w9 x) ?c1 ?c2 ?_)) | fail)
        case c1 => have := HL.out; have := HJM.out; have := HM.out; simp; omega
        case c2 => have := HGK.out; simp; omega
        intro v6 w6 o6 g6 b6
        have HO6 := Lib.hid o6
        have HL6 : Hid ((L ++ [x]).length = j + 1) := Lib.hid (by rw [List.length_append, HL.out]; rfl)
        have hgx : ∀ k, (Value.slice A5 j c5).ownBlock = some k → g + 1 ≤ k ∧ k < w9.heap.size := fun k e => World.ownsRow.lt HO9.out k e
        have HR6 : Hid (Rd w6 g g 143 s5) := Lib.hid (by
          have h1 := HR9.out.alloc' (.cells (recA x) 59)
          exact h1.keep g6 (fun e => by have := hgx g e.symm; omega) (fun k e => by have := hgx k e; omega))
        have HB6 : Hid (Below w.heap.size w w6) := Lib.hid ((nextB HBB9.out (below_alloc w9 _)).grown g6 (Nat.le_trans HBB9.out.size (below_alloc w9 _).size) (fun k e => by have := hgx k e; rw [HG.out]; omega))
        clear o6 g6 b6 hgx
        go_wp2_with fail
        go_roundw
        case rel => exact ⟨j + 1, L ++ [x], s5, by omega, by go_num, HO6.out, HL6.out, HR6.out, HNX.out, HB6.out⟩
        case measure => simp [intOf]; omega
      · obtain rfl : n = j := by omega
        have HD : Hid (Q = if s.1 = [] ∧ rightL L = true then (L, 0) else ([], 20)) := Lib.hid (by
          rcases hlp with ⟨_, h1, _⟩ | ⟨h1, _⟩
          · refine HDONE.out L s ?_ he
            rw [h1, Nat.sub_self]; simp [someR]
          · exact absurd he h1)
        have HRR := Lib.hid (refRight_any ho.rc (by have := hlp.le; have := HM.out; rw [hL]; omega))
        clear hlp he ho hL hr hgr
        obtain ⟨bb, hbb⟩ : ∃ y, rightL L = y := ⟨_, rfl⟩
        rw [hbb] at HD HRR
        by_cases hl0 : s.1 = []
        · have z2 : s.1.length = 0 := by rw [hl0]; rfl
          rw [z2] at r0c
          have HQ : Hid (Q = if bb = true then (L, 0) else ([], 20)) := Lib.hid (by rw [HD.out]; simp [hl0])
          clear z2 hl0 hbb
          go_wp2_with fail
          refine HRR.out.mono ?_
          rintro e w5 ⟨rfl, hb5⟩
          have HB5 := Lib.hid (nextB HB.out hb5)
          have HO5 := Lib.hid (HO.out.keep hb5)
          clear hb5 hb
          cases bb with
          | true =>
            obtain rfl : Q = (L, 0) := by rw [HQ.out]; rfl
            go_wp2_with fail
            go_ret2
            exact ⟨_, rfl, by have h1 := HO5.out; refine ⟨h1.1, ?_⟩; (rcases h1.2 with e | ⟨gq, cap, cur, e, hgq, h3⟩; exact .inl e; exact .inr ⟨gq, cap, cur, e, by rw [HG.out]; omega, h3⟩), HB5.out⟩
          | false =>
            obtain rfl : Q = ([], 20) := by rw [HQ.out]; rfl
            go_wp2_with fail
            go_ret2
            exact ⟨_, rfl, OwnR.nil _ _, HB5.out⟩
        · have z2 : decide ((0 : Int) < (s.1.length : Int)) = true := by
            have : s.1.length ≠ 0 := fun e => hl0 (List.eq_nil_of_length_eq_zero e)
            simp; omega
          obtain rfl : Q = ([], 20) := by rw [HD.out, if_neg fun e => hl0 e.1]
          clear hl0 hbb hb
          generalize s.1.length = ml at *
          have z3 : (0 : Int) < (ml : Int) := of_decide_eq_true z2
          go_wp2_with fail
          go_ret2
          exact ⟨_, rfl, OwnR.nil _ _, HB.out⟩
    · have z1 : (s.2 == 0) = false := by simpa using he
      have z1' : (s.2 != 0) = true := by simpa using he
      obtain rfl : Q = ([], 20) := HERR.out (by
        rcases hlp with ⟨h1, _⟩ | ⟨_, h2, _⟩
        · exact absurd h1 he
        · exact h2)
      clear hlp he ho hL hr hgr hb
      by_cases hjn : j < n
      · have i1 : (0 : Int) ≤ (j : Int) ∧ (j : Int) < n := by omega
        go_wp2_with fail
        go_ret2
        exact ⟨_, rfl, OwnR.nil _ _, HB.out⟩
      · have i1 : ¬ ((j : Int) < (n : Int)) := by omega
        go_wp2_with fail
        go_ret2
        exact ⟨_, rfl, OwnR.nil _ _, HB.out⟩

end Go.Proofs.Ytmcphlklknfbmaa
