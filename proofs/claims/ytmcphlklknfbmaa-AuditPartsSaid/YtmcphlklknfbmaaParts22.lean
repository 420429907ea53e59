/- Law 22: AuditParts: the records of some labels are all of theirs, in order; all labels together: all. -/
import Derived.Test.YtmcphlklknfbmaaPm22
import Derived.Test.YtmcphlklknfbmaaArgI
import Derived.Test.YtmcphlklknfbmaaLaw
namespace Go.Proofs.Ytmcphlklknfbmaa.auditParts
set_option maxRecDepth 100000
open Go.RowKit Go.ChangeShapes Go.WideShapes Go.ChangeAt

theorem ints_two (w : World) (x y : Int) : IntsV (w.alloc (.cells #[.int .i64 x, .int .i64 y] 3)) (w.alloc (.cells #[.int .i64 x, .int .i64 y] 3)).heap.size (.slice (some ⟨w.heap.size, 0, none⟩) 2 2) [x, y] :=
  ⟨_, 2, rfl, (lies_new w [.int .i64 x, .int .i64 y] 3).more (by simp)⟩
theorem ints_three (w : World) (x y z : Int) : IntsV (w.alloc (.cells #[.int .i64 x, .int .i64 y, .int .i64 z] 3)) (w.alloc (.cells #[.int .i64 x, .int .i64 y, .int .i64 z] 3)).heap.size (.slice (some ⟨w.heap.size, 0, none⟩) 3 3) [x, y, z] :=
  ⟨_, 3, rfl, (lies_new w [.int .i64 x, .int .i64 y, .int .i64 z] 3).more (by simp)⟩
theorem ints_four (w : World) (x y z u : Int) : IntsV (w.alloc (.cells #[.int .i64 x, .int .i64 y, .int .i64 z, .int .i64 u] 3)) (w.alloc (.cells #[.int .i64 x, .int .i64 y, .int .i64 z, .int .i64 u] 3)).heap.size (.slice (some ⟨w.heap.size, 0, none⟩) 4 4) [x, y, z, u] :=
  ⟨_, 4, rfl, (lies_new w [.int .i64 x, .int .i64 y, .int .i64 z, .int .i64 u] 3).more (by simp)⟩
theorem ints_zero (w : World) : IntsV w w.heap.size (.slice none 0 0) [] := ⟨none, 0, rfl, fun h => by simp [i64s] at h⟩
/-- How many records went to the labels below k. -/
def sumOf (L : List RecX) : Nat → Nat
  | 0 => 0
  | k + 1 => sumOf L k + (ofL [(k : Int)] L).length
theorem sum_four {L : List RecX} {r : Int} (h : SmI L r) : sumOf L 4 = L.length := by
  have := of_four h
  show 0 + (ofL [((0 : Nat) : Int)] L).length + (ofL [((1 : Nat) : Int)] L).length + (ofL [((2 : Nat) : Int)] L).length + (ofL [((3 : Nat) : Int)] L).length = L.length
  simpa using this
theorem sum_le (L : List RecX) : ∀ k, sumOf L k ≤ k * L.length
  | 0 => Nat.zero_le _
  | k + 1 => by
    have h1 := sum_le L k
    have h2 := ofL_len [(k : Int)] L
    show sumOf L k + (ofL [(k : Int)] L).length ≤ (k + 1) * L.length
    rw [Nat.succ_mul]; omega
/-- What the loops keep: the log, the records, all in blocks that came behind. -/
structure PaS (w0 w2 : World) (v : Value) (L X : List RecX) (a : Nat) (w : World) : Prop where
  log : ∃ S, LogV w S a X ∧ ∀ k, S k → w2.heap.size ≤ k
  rc : RcV w2 v L
  le : w0.heap.size ≤ w2.heap.size
  b0 : Below w0.heap.size w0 w
  b2 : Below w2.heap.size w2 w
theorem PaS.later {w0 w2 w w' : World} {v : Value} {L X : List RecX} {a : Nat} (h : PaS w0 w2 v L X a w) (hb : Below w.heap.size w w') : PaS w0 w2 v L X a w' := by
  obtain ⟨S, h1, h2⟩ := h.log
  exact ⟨⟨S, h1.below hb, h2⟩, h.rc, h.le, nextB h.b0 hb, nextB h.b2 hb⟩
/-- Of, from such a state. -/
theorem PaS.of {w0 w2 w : World} {v vt : Value} {L X : List RecX} {a : Nat} {ls : List Int} (h : PaS w0 w2 v L X a w) (hn : X.length ≤ 100000) (ht : IntsV w w.heap.size vt ls) (htl : ls.length ≤ 1000) :
    Calls Try.prog 41 #[.pointer (some ⟨a, 0, none⟩), vt] w (ClR w (ofL ls X)) := by
  obtain ⟨S, h1, _⟩ := h.log
  exact logOf_any h1 hn ht htl
/-- Add of one record, from such a state. -/
theorem PaS.add {w0 w2 w : World} {v : Value} {L X : List RecX} {a : Nat} {x : RecX} (h : PaS w0 w2 v L X a w) (hn : X.length + 1 ≤ 100000) :
    Calls Try.prog 35 #[.pointer (some ⟨a, 0, none⟩), .slice (some ⟨w.heap.size, 0, none⟩) 1 1] (w.alloc (.cells (recA x) 59)) fun e w' => e = .returned (.tuple #[]) ∧ PaS w0 w2 v L (X ++ [x]) a w' := by
  have h' := h.later (below_alloc w (.cells (recA x) 59))
  obtain ⟨S, h1, h2⟩ := h'.log
  refine (logAdd_any (L2 := [x]) (c2 := 1) h1 (fresh_rec w x) (by simpa using hn)).mono ?_
  rintro e w' ⟨rfl, S', h3, hst⟩
  have hb := hst.below h2 h'.b2.size
  have hb0 : Below w0.heap.size w0 w' := h'.b0.trans (hst.below (lo := w0.heap.size) (fun k hk => Nat.le_trans h'.le (h2 k hk)) h'.b0.size)
  exact ⟨rfl, ⟨S', h3, hst.low h2 h'.b2.size⟩, h'.rc, h'.le, hb0, h'.b2.trans hb⟩

set_option maxRecDepth 100000 in
set_option maxHeartbeats 16000000 in
theorem walk {w : World} {v : Value} {P : List (List Int)} (a b : Int) (h : RowsV [.u8, .u8, .u8, .u8] w w.heap.size v P) :
    Calls Try.prog 10 #[v, .int .i64 a, .int .i64 b] w fun e w' => e = .returned (.bool true) ∧ Below w.heap.size w w' := by
  by_cases hm : P.length ≤ 30
  case neg =>
    have HP := Lib.hid h
    obtain ⟨A, c, rfl, hj1, hj2, hj3⟩ := h
    clear hj1 hj2 hj3
    have hm2 : (30 : Int) < (P.length : Int) := by omega
    generalize P.length = n at *
    have HM := Lib.hid hm
    clear hm
    go_enter Try.func10, Try.ntmps10
    go_wp2_with fail
    refine (known22_any w).mono ?_
    rintro e w1 ⟨rfl, hb1⟩
    have HB1 := Lib.hid hb1
    clear hb1
    go_wp2_with fail
    go_ret
    exact ⟨rfl, HB1.out⟩
  case pos =>
    have HP := Lib.hid h
    obtain ⟨A, c, hv, hj1, hj2, hj3⟩ := h
    clear hj1 hj2 hj3
    obtain ⟨n, hln⟩ : ∃ n, P.length = n := ⟨_, rfl⟩
    have HLN := Lib.hid hln
    rw [hln] at hv hm
    subst hv
    clear hln
    have hm2 : ¬ ((30 : Int) < (n : Int)) := by omega
    obtain ⟨L, hL⟩ : ∃ L, (smL P).1 = L := ⟨_, rfl⟩
    obtain ⟨r, hR⟩ : ∃ r, (smL P).2 = r := ⟨_, rfl⟩
    have HSM : Hid (SmI L r) := Lib.hid (by rw [← hL, ← hR]; exact smI_of P)
    have HLL : Hid (L.length = n) := Lib.hid (by rw [← hL, smL_len]; exact HLN.out)
    have HL := Lib.hid hL
    clear hL hR
    go_enter Try.func10, Try.ntmps10
    go_wp2_with fail
    refine (known22_any w).mono ?_
    rintro e w1 ⟨rfl, hb1⟩
    have HSO := Lib.hid (some22_any ((HP.out.below hb1).more hb1.size) (by rw [HLN.out]; omega))
    rw [HL.out] at HSO
    have HB1 := Lib.hid hb1
    clear hb1
    go_wp2_with fail
    refine HSO.out.mono ?_
    rintro e w2 ⟨v2, rfl, o2, b2⟩
    obtain ⟨A2, c2, e2⟩ := o2.shape
    rw [HLL.out] at e2
    subst e2
    have HO2 := Lib.hid o2
    have HB2 := Lib.hid (nextB HB1.out b2)
    clear o2 b2
    go_wp2_with fail
    refine (logNew_any w2).mono ?_
    rintro e w3 ⟨ga, rfl, hlog, hga, hb3⟩
    have HS3 : Hid (PaS w w2 (.slice A2 n c2) L [] ga w3) := Lib.hid ⟨⟨_, hlog, fun k e => by rw [e]; exact hga⟩, HO2.out.rc, HB2.out.size, nextB HB2.out hb3, hb3⟩
    clear hlog hga hb3
    go_wp2_with fail
    go_loopw [9] (fun i wr => ∃ j : Nat, j ≤ n ∧ i = .int .i64 j ∧ PaS w w2 (.slice A2 n c2) L (L.take j) ga wr) (fun i _ => n - (intOf i).toNat)
    case atStart => exact ⟨0, Nat.zero_le _, rfl, HS3.out⟩
    case round =>
      obtain ⟨j, hj, rfl, hs⟩ := hrel
      have HS := Lib.hid hs
      by_cases hjn : j < n
      · have hjl : j < L.length := by rw [HLL.out]; exact hjn
        have hrc := hs.rc.later hs.b2
        obtain ⟨g, off, eA, hr⟩ := hrc.at' hjl
        subst eA
        have HTK := Lib.hid (List.take_succ_eq_append_getElem hjl)
        generalize L[j] = x at *
        have HR := Lib.hid hr
        have HAD := Lib.hid (hs.add (x := x) (by rw [List.length_take, HLL.out]; omega))
        have i1 : (0 : Int) ≤ (j : Int) ∧ (j : Int) < n := by omega
        clear hs hrc hjl hr
        go_wp2_with (first | (refine load_recMid rfl _ rfl g (off + j * 6) x rfl HR.out ?_; simp only [recA]) | fail)
        refine HAD.out.mono ?_
        rintro e w4 ⟨rfl, hs4⟩
        have HS4 := Lib.hid hs4
        clear hs4
        go_wp2_with fail
        go_roundw
        case rel => exact ⟨j + 1, by omega, by go_num, by rw [HTK.out]; exact HS4.out⟩
        case measure => simp [intOf]; omega
      · obtain rfl : n = j := by omega
        have HS5 : Hid (PaS w w2 (.slice A2 n c2) L L ga wr) := Lib.hid (by have h1 := hs; rwa [List.take_of_length_le (by rw [HLL.out]; omega)] at h1)
        clear hs HS
        have hl4 := HLL.out
        clear hjn hj
        go_wp2_with fail
        go_loopw [10, 11, 12, 13] (fun s k _ _ wr => ∃ (q : Nat), q ≤ 4 ∧ k = .int .i64 q ∧ s = .int .i64 (sumOf L q : Nat) ∧ PaS w w2 (.slice A2 n c2) L L ga wr) (fun _ k _ _ _ => 4 - (intOf k).toNat)
        case atStart => exact ⟨0, by omega, rfl, rfl, HS5.out⟩
        case round =>
          obtain ⟨q, hq, rfl, rfl, hs⟩ := hrel
          have HS := Lib.hid hs
          by_cases hq4 : q < 4
          · obtain ⟨w6, hw6⟩ : ∃ y, y = wr.alloc (.cells #[.int .i64 (q : Int)] 3) := ⟨_, rfl⟩
            have hs6 : PaS w w2 (.slice A2 n c2) L L ga w6 := by rw [hw6]; exact hs.later (below_alloc wr _)
            have HS6 := Lib.hid hs6
            have HOF := Lib.hid (hs6.of (vt := .slice (some ⟨wr.heap.size, 0, none⟩) 1 1) (ls := [(q : Int)]) (by rw [hl4]; omega) (by rw [hw6]; exact ints_one wr q) (by simp))
            have HW6 := Lib.hid hw6
            obtain ⟨sq, hsq⟩ : ∃ y, sumOf L q = y := ⟨_, rfl⟩
            have hsq2 : sq ≤ 120 := by
              have h1 := sum_le L q
              have h2 : q * L.length ≤ 4 * 30 := Nat.mul_le_mul (by omega) (by rw [hl4]; omega)
              omega
            have HSQ := Lib.hid hsq
            rw [hsq]
            clear hs hs6 hw6 hsq hl4
            go_wp2_with fail
            rw [← HW6.out]
            refine HOF.out.mono ?_
            rintro e w7 ⟨v7, rfl, o7, b7⟩
            obtain ⟨A7, c7, e7⟩ := o7.shape
            have HS7 := Lib.hid (HS6.out.later b7)
            have HR7 := Lib.hid o7.rc
            have hle := ofL_len [(q : Int)] L
            rw [HLL.out] at hle
            obtain ⟨m, hmm⟩ : ∃ y, (ofL [(q : Int)] L).length = y := ⟨_, rfl⟩
            rw [hmm] at e7 hle
            subst e7
            have HMM := Lib.hid hmm
            clear o7 b7 hmm
            have hsm : (0 : Int) ≤ (sq : Int) ∧ (sq : Int) ≤ 120 ∧ (0 : Int) ≤ (m : Int) ∧ (m : Int) ≤ 30 := by omega
            go_wp2_with fail
            go_loopw [13] (fun i wr => ∃ j : Nat, j ≤ m ∧ i = .int .i64 j ∧ PaS w w2 (.slice A2 n c2) L L ga wr ∧ RcV wr (.slice A7 m c7) (ofL [(q : Int)] L)) (fun i _ => m - (intOf i).toNat)
            case atStart => exact ⟨0, Nat.zero_le _, rfl, HS7.out, HR7.out⟩
            case round =>
              obtain ⟨j, hj, rfl, hs, hrc⟩ := hrel
              have HS8 := Lib.hid hs
              have HR8 := Lib.hid hrc
              by_cases hjm : j < m
              · have hjl : j < (ofL [(q : Int)] L).length := by rw [HMM.out]; exact hjm
                obtain ⟨g, off, eA, hr⟩ := hrc.at' hjl
                subst eA
                obtain ⟨x, hx⟩ : ∃ x, (ofL [(q : Int)] L)[j] = x := ⟨_, rfl⟩
                have hone := of_one HSM.out q j x (by rw [List.getElem?_eq_getElem hjl, hx])
                rw [hx] at hr
                have d0 : wr.cell? ⟨g, off + j * 6, none⟩ = some (.int .i64 (j : Int)) := by rw [← hone.2.1]; exact hr 0 _ rfl
                have d2 : wr.cell? ⟨g, off + j * 6 + 2, none⟩ = some (.int .i64 (q : Int)) := by rw [← hone.1]; exact hr 2 _ rfl
                have d4 : wr.cell? ⟨g, off + j * 6 + 4, none⟩ = some (.int .i64 x.rd) := hr 4 _ rfl
                have s0 : ((j : Int) == (j : Int)) = true := beq_self_eq_true _
                have s1 : ((q : Int) == (q : Int)) = true := beq_self_eq_true _
                have i1 : (0 : Int) ≤ (j : Int) ∧ (j : Int) < m := by omega
                by_cases hj0 : 0 < j
                · obtain ⟨p, rfl⟩ : ∃ p, j = p + 1 := ⟨j - 1, by omega⟩
                  obtain ⟨g', off', e', hr'⟩ := hrc.at' (j := p) (by omega)
                  obtain ⟨rfl, rfl⟩ : g = g' ∧ off = off' := by injection e' with e'; injection e' with e1 e2; exact ⟨e1, e2⟩
                  obtain ⟨y, hy⟩ : ∃ y, (ofL [(q : Int)] L)[p] = y := ⟨_, rfl⟩
                  rw [hy] at hr'
                  have hlt := hone.2.2.2 y hj0 (by rw [Nat.add_sub_cancel, List.getElem?_eq_getElem (by omega), hy])
                  have d5 : wr.cell? ⟨g, off + p * 6 + 4, none⟩ = some (.int .i64 y.rd) := hr' 4 _ rfl
                  have s2 : ¬ (x.rd < y.rd) := by omega
                  obtain ⟨jj, hjj⟩ : ∃ jj, p + 1 = jj := ⟨_, rfl⟩
                  rw [hjj] at d0 d2 d4 s0 i1 ⊢
                  have hp : (jj : Int) - 1 = (p : Int) := by omega
                  have hwp : IntKind.i64.wrap ((jj : Int) - 1) = (p : Int) := by rw [hp]; exact IntWalk.i64_in _ (by omega)
                  have i2 : (0 : Int) ≤ (p : Int) ∧ (p : Int) < m := by omega
                  have i3 : (0 : Int) < (jj : Int) := by omega
                  have i4 : 0 < jj := by omega
                  have i5 : decide ((0 : Int) < (jj : Int)) = true := decide_eq_true i3
                  have HJJ := Lib.hid hjj
                  have HJM := Lib.hid hjm
                  clear hs hrc hr hr' hx hy hone hlt hjl e' hjj hj0 hj hjm
                  go_wp2_with fail
                  go_quiet (fail)
                  go_wp2_with fail
                  go_roundw
                  case rel => exact ⟨jj + 1, by have := HJJ.out; have := HJM.out; omega, by go_num, HS8.out.later (below_drewN (Below.refl _ _) _), HR8.out.later (below_drewN (Below.refl _ _) _)⟩
                  case measure => have := HJJ.out; have := HJM.out; simp [intOf]; omega
                · have i3 : ¬ ((0 : Int) < (j : Int)) := by omega
                  have i4 : ¬ (0 < j) := by omega
                  have i5 : decide ((0 : Int) < (j : Int)) = false := decide_eq_false i3
                  clear hs hrc hr hx hone hjl hj0
                  go_wp2_with fail
                  go_quiet (fail)
                  go_wp2_with fail
                  go_roundw
                  case rel => exact ⟨j + 1, by omega, by go_num, HS8.out.later (below_drewN (Below.refl _ _) _), HR8.out.later (below_drewN (Below.refl _ _) _)⟩
                  case measure => simp [intOf]; omega
              · obtain rfl : m = j := by omega
                have HSU : Hid (sumOf L (q + 1) = sq + m) := Lib.hid (by show sumOf L q + (ofL [(q : Int)] L).length = _; rw [HSQ.out, HMM.out])
                clear hs hrc
                go_wp2_with fail
                go_roundw
                case rel => exact ⟨q + 1, by omega, by go_num, by rw [HSU.out]; go_num, HS8.out⟩
                case measure => simp [intOf]; omega
          · obtain rfl : q = 4 := by omega
            rw [sum_four HSM.out, HLL.out]
            have s9 : ((n : Int) == (n : Int)) = true := beq_self_eq_true _
            obtain ⟨w6, hw6⟩ : ∃ y, y = wr.alloc (.cells #[.int .i64 0, .int .i64 1, .int .i64 2, .int .i64 3] 3) := ⟨_, rfl⟩
            have hs6 : PaS w w2 (.slice A2 n c2) L L ga w6 := by rw [hw6]; exact hs.later (below_alloc wr _)
            have HS6 := Lib.hid hs6
            have HOF := Lib.hid (hs6.of (vt := .slice (some ⟨wr.heap.size, 0, none⟩) 4 4) (ls := [0, 1, 2, 3]) (by rw [hl4]; omega) (by rw [hw6]; exact ints_four wr 0 1 2 3) (by simp))
            rw [of_all HSM.out] at HOF
            have HW6 := Lib.hid hw6
            clear hs6 hw6 hs hl4
            go_wp2_with fail
            rw [← HW6.out]
            refine HOF.out.mono ?_
            rintro e w7 ⟨v7, rfl, o7, b7⟩
            have HS7 := Lib.hid (HS6.out.later b7)
            have HSA := Lib.hid (sameAudit_any o7.rc (HS7.out.rc.later HS7.out.b2) (by rw [HLL.out]; omega))
            clear o7 b7
            go_wp2_with fail
            refine HSA.out.mono ?_
            rintro e w8 ⟨rfl, b8⟩
            have HS8 := Lib.hid (HS7.out.later b8)
            have HOZ := Lib.hid (HS8.out.of (by rw [HLL.out]; omega) (ints_zero w8) (by simp))
            rw [of_none] at HOZ
            clear b8
            go_wp2_with fail
            refine HOZ.out.mono ?_
            rintro e w9 ⟨v9, rfl, o9, b9⟩
            obtain ⟨A9, c9, e9⟩ := o9.shape
            have e9 : v9 = .slice A9 0 c9 := e9
            subst e9
            have hs9 := HS8.out.later b9
            obtain ⟨w10, hw10⟩ : ∃ y, y = w9.alloc (.cells #[.int .i64 a, .int .i64 b] 3) := ⟨_, rfl⟩
            have hs10 : PaS w w2 (.slice A2 n c2) L L ga w10 := by rw [hw10]; exact hs9.later (below_alloc w9 _)
            have HS10 := Lib.hid hs10
            have HOA := Lib.hid (hs10.of (vt := .slice (some ⟨w9.heap.size, 0, none⟩) 2 2) (ls := [a, b]) (by rw [HLL.out]; omega) (by rw [hw10]; exact ints_two w9 a b) (by simp))
            have HW10 := Lib.hid hw10
            clear o9 b9 hs9 hs10 hw10
            go_wp2_with fail
            rw [← HW10.out]
            refine HOA.out.mono ?_
            rintro e w11 ⟨v11, rfl, o11, b11⟩
            have hs11 := HS10.out.later b11
            obtain ⟨w12, hw12⟩ : ∃ y, y = w11.alloc (.cells #[.int .i64 b, .int .i64 a, .int .i64 a] 3) := ⟨_, rfl⟩
            have hs12 : PaS w w2 (.slice A2 n c2) L L ga w12 := by rw [hw12]; exact hs11.later (below_alloc w11 _)
            have HR12 : Hid (RcV w12 v11 (ofL [a, b] L)) := Lib.hid (by rw [hw12]; exact o11.rc.later (below_alloc w11 _))
            have HOB := Lib.hid (hs12.of (vt := .slice (some ⟨w11.heap.size, 0, none⟩) 3 3) (ls := [b, a, a]) (by rw [HLL.out]; omega) (by rw [hw12]; exact ints_three w11 b a a) (by simp))
            rw [of_swap] at HOB
            have HW12 := Lib.hid hw12
            have hle := ofL_len [a, b] L
            rw [HLL.out] at hle
            have HLE := Lib.hid hle
            have HB12 := Lib.hid hs12.b0
            clear o11 b11 hs11 hs12 hw12 hle
            go_wp2_with fail
            rw [← HW12.out]
            refine HOB.out.mono ?_
            rintro e w13 ⟨v13, rfl, o13, b13⟩
            have HSB := Lib.hid (sameAudit_any (HR12.out.later b13) o13.rc (by have := HLE.out; omega))
            have HB13 := Lib.hid (nextB HB12.out b13)
            clear o13 b13
            go_wp2_with fail
            refine HSB.out.mono ?_
            rintro e w14 ⟨rfl, b14⟩
            have HB14 := Lib.hid (nextB HB13.out b14)
            clear b14
            go_wp2_with fail
            go_ret
            exact ⟨rfl, HB14.out⟩

/- The claim. -/

set_option maxRecDepth 100000 in
theorem lifted (os : Os) (started : os.Started) (H : Type) (enc : TypeId × Value → H) :
    ReturnsInHanded {} Try.checked os 10 .any (Rows.auditPartsSpec.pre6 enc Try.prog Try.f10 Rows.auditPartsRow.domain false) (Rows.auditPartsSpec.post enc Try.prog Try.f10 false true false false) := by
  refine returnsInHanded_of_change (C := Try.checked) ownKnobs started (by kernel_rfl) Try.func10
    (ChangeSpec.witness6 (enc := enc) (C := Try.checked) false ⟨#[], #[.slice none 0 0, .int .i64 0, .int .i64 0], []⟩ 8 (by kernel_rfl) (by kernel_rfl) (by kernel_rfl) (by kernel_rfl)) ?_
  intro W base args ds gs before hval hW _ _
  refine law_contract rfl rfl (fun ds h => by match ds, h with | [d1, d2, d3], _ => rfl) (by decide +kernel) hW ?_
  obtain ⟨p, q, hA0, _⟩ := hW
  have hA : DataW.TrodAll enc Try.prog W 0 (fun _ => true) true Try.f10.params.toList args.toList ds p := hA0
  have hval' : ∀ (j : Nat) t v, Try.f10.params[j]? = some t → args[j]? = some v → Value.okWide Try.prog W .any base t v := hval
  rw [Try.params10] at hA hval'
  obtain ⟨v0, vs0, d0, ds0, p0, q0, hargs, rfl, rfl, h0, r0⟩ := trodAll_cons hA
  obtain ⟨v1, vs1, d1, ds1, p1, q1, rfl, rfl, rfl, h1, r1⟩ := trodAll_cons r0
  obtain ⟨v2, vs2, d2, ds2, p2, q2, rfl, rfl, rfl, h2, r2⟩ := trodAll_cons r1
  obtain ⟨rfl, rfl, rfl⟩ := trodAll_nil r2
  obtain rfl : args = #[v0, v1, v2] := by cases args; simp_all
  obtain ⟨l0, h0, m0⟩ := open_rows4 (hval' 0 _ v0 rfl rfl) h0
  obtain ⟨a1, rfl, rfl, rfl, w1⟩ := open_int Try.underlying3 (hval' 1 _ v1 rfl rfl) h1
  have b1 : -9223372036854775808 ≤ a1 ∧ a1 ≤ 9223372036854775807 := by simpa [Lit.wf, IntKind.min, IntKind.max, IntKind.signed, IntKind.bits] using w1
  obtain ⟨a2, rfl, rfl, rfl, w2⟩ := open_int Try.underlying3 (hval' 2 _ v2 rfl rfl) h2
  have b2 : -9223372036854775808 ≤ a2 ∧ a2 ≤ 9223372036854775807 := by simpa [Lit.wf, IntKind.min, IntKind.max, IntKind.signed, IntKind.bits] using w2
  exact walk a1 a2 h0

theorem proved : Rows.AuditPartsSaid :=
  OpenClaim.holds_of_wide 10 Try.f10 rfl rfl rfl rfl rfl rfl rfl ⟨rfl, rfl, rfl, rfl, rfl⟩ rfl rfl rfl rfl rfl (by kernel_rfl) Try.func10 (by kernel_rfl)
    (of_decide_eq_true (by kernel_rfl)) (by unfold Func.isWrapper; first | (rw [if_pos (by decide +kernel)]; kernel_rfl) | (rw [if_neg (by decide +kernel)]; exact ⟨rfl, rfl⟩))
    (fun os started H enc _ => lifted os started H enc)

end Go.Proofs.Ytmcphlklknfbmaa.auditParts
