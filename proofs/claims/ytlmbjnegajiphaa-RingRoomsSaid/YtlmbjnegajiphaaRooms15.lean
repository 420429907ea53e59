/- RingRooms returns true for every input and changes nothing: just so many tasks fit, and as many may come again as have gone. No condition. -/
import Derived.Test.YtlmbjnegajiphaaKnown15
import Derived.Test.YtlmbjnegajiphaaLaw
import Derived.Deep.QuietTactic
namespace Go.Proofs.Ytlmbjnegajiphaa.ringRooms
set_option maxRecDepth 100000
open Go.RowKit Go.ChangeShapes Go.WideShapes Go.ChangeAt

theorem quiet_flip {f : FuncId} {args : Array Value} {w : World} {v : Value} (h : Calls Try.prog f args w fun e w' => e = .returned v ∧ w = w') : Calls Try.prog f args w fun e w' => e = .returned v ∧ w' = w :=
  h.mono fun _ _ ⟨he, hw⟩ => ⟨he, hw.symm⟩
def seqF (f : Nat → TK) (lo : Nat) : Nat → List TK
  | 0 => []
  | n + 1 => f lo :: seqF f (lo + 1) n
theorem seqF_len (f : Nat → TK) (lo n : Nat) : (seqF f lo n).length = n := by
  induction n generalizing lo with
  | zero => rfl
  | succ n ih => simp [seqF, ih]
theorem seqF_snoc (f : Nat → TK) (lo n : Nat) : seqF f lo (n + 1) = seqF f lo n ++ [f (lo + n)] := by
  induction n generalizing lo with
  | zero => rfl
  | succ n ih => rw [seqF, ih, show lo + 1 + n = lo + (n + 1) from by omega]; rfl
theorem seqF_map (f : Nat → TK) (g : Nat → TK) (lo n : Nat) (h : ∀ m, lo ≤ m → m < lo + n → f m = g m) : seqF f lo n = seqF g lo n := by
  induction n generalizing lo with
  | zero => rfl
  | succ n ih => rw [seqF, seqF, h lo (Nat.le_refl _) (by omega), ih (lo + 1) fun m h1 h2 => h m (by omega) (by omega)]
/-- The tasks as they came: R of the first row, then those of the second. -/
def fR (R m : Nat) : TK := if m < R then idT (m : Int) else idT ((1000 + (m - R) : Nat) : Int)
theorem push_lit {w : World} {S : Nat → Prop} {a R : Nat} {L : List TK} (h : RgV w S a R L) (x : Int) : Calls Try.prog 39 #[.pointer (some ⟨a, 0, none⟩), .agg #[.int .i32 x, .int .i64 0, .int .i64 0, .slice none 0 0, .int .i32 0, .int .i32 0, .int .i32 0, .int .i32 0, .int .i64 0, .int .i64 0, .int .u32 0, .int .i64 0]] w (VPush w S a R L (idT x)) := vPush_nil (t := idT x) h rfl
theorem room_len (f : Nat → TK) (q R : Nat) : decide ((seqF f 0 (min q R)).length < R) = decide (q < R) := by
  rw [seqF_len, decide_eq_decide]; omega
theorem room_push (q R : Nat) : (if (seqF (fR R) 0 (min q R)).length < R then seqF (fR R) 0 (min q R) ++ [idT (q : Int)] else seqF (fR R) 0 (min q R)) = seqF (fR R) 0 (min (q + 1) R) := by
  rw [seqF_len]
  by_cases h : q < R
  · rw [if_pos (by omega), show min q R = q by omega, show min (q + 1) R = q + 1 by omega, seqF_snoc]
    simp [fR, h]
  · rw [if_neg (by omega), show min q R = min (q + 1) R by omega]
theorem steal_seq {w : World} {S : Nat → Prop} {a R : Nat} {f : Nat → TK} {i : Nat} (h1 : 1 ≤ R) (h : RgV w S a R (seqF f i R)) : Calls Try.prog 43 #[.pointer (some ⟨a, 0, none⟩)] w (VGone w S a R (seqF f (i + 1) (R - 1)) (f i)) := by
  obtain ⟨R', rfl⟩ : ∃ R', R = R' + 1 := ⟨R - 1, by omega⟩
  exact vSteal_any (M := seqF f (i + 1) R') (t := f i) h
/-- What a Push answers that finds room, or none. -/
def PuK (w : World) (S : Nat → Prop) (a R i : Nat) (b : Bool) (e : Ending) (w' : World) : Prop := e = .returned (.bool b) ∧ ∃ S', RgV w' S' a R (seqF (fR R) i R) ∧ Stp S S' w w'
theorem push_seq {w : World} {S : Nat → Prop} {a R i : Nat} (h1 : 1 ≤ R) (h : RgV w S a R (seqF (fR R) (i + 1) (R - 1))) : Calls Try.prog 39 #[.pointer (some ⟨a, 0, none⟩), .agg #[.int .i32 (1000 + (i : Int)), .int .i64 0, .int .i64 0, .slice none 0 0, .int .i32 0, .int .i32 0, .int .i32 0, .int .i32 0, .int .i64 0, .int .i64 0, .int .u32 0, .int .i64 0]] w (PuK w S a R (i + 1) true) := by
  refine (push_lit h _).mono ?_
  rintro e w' ⟨S', rfl, hr, hs⟩
  have hl : (seqF (fR R) (i + 1) (R - 1)).length < R := by rw [seqF_len]; omega
  rw [if_pos hl] at hr
  refine ⟨by rw [decide_eq_true hl], S', ?_, hs⟩
  have e1 : seqF (fR R) (i + 1) R = seqF (fR R) (i + 1) (R - 1) ++ [idT (1000 + (i : Int))] := by
    obtain ⟨R', hR'⟩ : ∃ R', R = R' + 1 := ⟨R - 1, by omega⟩
    have h2 : fR R (i + 1 + R') = idT (1000 + (i : Int)) := by
      unfold fR; rw [if_neg (by omega), show i + 1 + R' - R = i from by omega]; push_cast; rfl
    rw [show R - 1 = R' from by omega, ← h2]
    have h3 := seqF_snoc (fR R) (i + 1) R'
    rwa [← hR'] at h3
  rw [e1]; exact hr
theorem push_full {w : World} {S : Nat → Prop} {a R i : Nat} (h : RgV w S a R (seqF (fR R) i R)) : Calls Try.prog 39 #[.pointer (some ⟨a, 0, none⟩), .agg #[.int .i32 0, .int .i64 0, .int .i64 0, .slice none 0 0, .int .i32 0, .int .i32 0, .int .i32 0, .int .i32 0, .int .i64 0, .int .i64 0, .int .u32 0, .int .i64 0]] w (PuK w S a R i false) := by
  refine (push_lit h 0).mono ?_
  rintro e w' ⟨S', rfl, hr, hs⟩
  have hl : ¬ (seqF (fR R) i R).length < R := by rw [seqF_len]; omega
  rw [if_neg hl] at hr
  exact ⟨by rw [decide_eq_false hl], S', hr, hs⟩
/-- A ring with the tasks from lo on, n of them; its box of the pair. -/
structure RmK (w wr : World) (a R bk lo n : Nat) (k0 : Int) : Prop where
  rg : ∃ S, RgV wr S a R (seqF (fR R) lo n) ∧ (∀ i, S i → w.heap.size ≤ i ∧ i ≠ bk)
  bx : wr.heap[bk]? = some (.cells #[.int .i64 k0, .int .i64 R] 82 (0, 0))
  bl : Below w.heap.size w wr
theorem RmK.step {w wr w' : World} {a R bk lo n lo' n' : Nat} {k0 : Int} {S S' : Nat → Prop} (h : RmK w wr a R bk lo n k0) (hlo : ∀ i, S i → w.heap.size ≤ i ∧ i ≠ bk) (h1 : RgV w' S' a R (seqF (fR R) lo' n')) (hs : Stp S S' wr w') : RmK w w' a R bk lo' n' k0 := by
  have hb : bk < wr.heap.size := (Array.getElem?_eq_some_iff.1 h.bx).1
  exact ⟨⟨S', h1, fun i hi => ⟨hs.low (fun i hi => (hlo i hi).1) h.bl.size i hi, fun e => hs.apart (T := fun j => j = bk) (fun i e => by omega) (fun i hi e => (hlo i hi).2 e) i hi e⟩⟩,
    (hs.frm.block bk hb (fun e => (hlo bk e).2 rfl)).trans h.bx, h.bl.trans (hs.below (fun i hi => (hlo i hi).1) h.bl.size)⟩
theorem RmK.below {w wr w' : World} {a R bk lo n : Nat} {k0 : Int} (h : RmK w wr a R bk lo n k0) (hb : Below wr.heap.size wr w') : RmK w w' a R bk lo n k0 := by
  obtain ⟨S, h1, h2⟩ := h.rg
  exact ⟨⟨S, h1.below hb, h2⟩, (hb.block _ (Array.getElem?_eq_some_iff.1 h.bx).1).trans h.bx, nextB h.bl hb⟩
set_option maxRecDepth 100000 in
set_option maxHeartbeats 8000000 in
theorem walk (x : Int) (n : Nat) (w : World) (hx : -9223372036854775808 ≤ x ∧ x ≤ 9223372036854775807) (hn : n ≤ 255) : Calls Try.prog 8 #[.int .i64 x, .int .u8 n] w fun e w' => e = .returned (.bool true) ∧ Below w.heap.size w w' := by
  obtain ⟨R0, hR0⟩ : ∃ R, roomZ x = R := ⟨_, rfl⟩
  obtain ⟨m, hm⟩ : ∃ m : Int, (if x < 1 then 1 else x) = m := ⟨_, rfl⟩
  have e1 : (if (64 : Int) < m then (64 : Int) else m) = (R0 : Int) := by rw [← hm, ← hR0]; unfold roomZ; split <;> split <;> omega
  obtain ⟨s, hs⟩ : ∃ s, n % 70 = s := ⟨_, rfl⟩
  have hs70 : s < 70 := by omega
  have e0 : ((n : Int)).tmod 70 = (s : Int) := by rw [← hs]; rfl
  obtain ⟨R1, hR1⟩ : ∃ R, roomZ ((s : Int) + 1) = R := ⟨_, rfl⟩
  have e2 : (if (64 : Int) < (s : Int) + 1 then (64 : Int) else (s : Int) + 1) = (R1 : Int) := by rw [← hR1]; unfold roomZ; split <;> omega
  have HR0 := Lib.hid hR0; have HR1 := Lib.hid hR1
  clear hR0 hR1 hs
  go_enter Try.func8, Try.ntmps8
  go_wp2_with fail
  refine (known15_any w).mono ?_
  rintro e w1 ⟨rfl, hb1⟩
  have B1 := Lib.hid hb1
  clear hb1
  go_wp2_with fail
  have HP : Hid ((w1.alloc (.cells #[.int .i64 x, .int .i64 R0, .int .i64 ((s : Int) + 1), .int .i64 R1] 82)).heap[w1.heap.size]? = some (.cells #[.int .i64 x, .int .i64 R0, .int .i64 ((s : Int) + 1), .int .i64 R1] 82 (0, 0))) := Lib.hid (heap_alloc_new w1 _)
  obtain ⟨wp, hwp⟩ : ∃ wp, wp = w1.alloc (.cells #[.int .i64 x, .int .i64 R0, .int .i64 ((s : Int) + 1), .int .i64 R1] 82) := ⟨_, rfl⟩
  rw [← hwp] at HP ⊢
  have BP : Hid (Below w.heap.size w wp) := Lib.hid (by rw [hwp]; exact nextB B1.out (below_alloc w1 _))
  have hsp : w1.heap.size < wp.heap.size := by rw [hwp]; simp
  clear hwp
  go_loopw [32] (fun i wr => ∃ j : Nat, j ≤ 2 ∧ i = .int .i64 j ∧ Below wp.heap.size wp wr) (fun i _ => 2 - (intOf i).toNat)
  case atStart => exact ⟨0, by omega, rfl, Below.refl _ _⟩
  case round =>
    obtain ⟨j, hj, rfl, hb⟩ := hrel
    rename World => wo
    have HB := Lib.hid hb
    by_cases hjk : j < 2
    · obtain ⟨y, R, hyR, hc0, hc1⟩ : ∃ (y : Int) (R : Nat), roomZ y = R ∧ wo.cell? ⟨w1.heap.size, j * 2, none⟩ = some (.int .i64 y) ∧ wo.cell? ⟨w1.heap.size, j * 2 + 1, none⟩ = some (.int .i64 R) := by
        have hq := (hb.block _ hsp).trans HP.out
        rcases (show j = 0 ∨ j = 1 by omega) with rfl | rfl
        · exact ⟨x, R0, HR0.out, cell_blk hq 0, cell_blk hq 1⟩
        · exact ⟨(s : Int) + 1, R1, HR1.out, cell_blk hq 2, cell_blk hq 3⟩
      have hRb : 1 ≤ R ∧ R ≤ 64 := by rw [← hyR]; unfold roomZ; omega
      have i1 : (0 : Int) ≤ (j : Int) ∧ (j : Int) < 2 := by omega
      have HY := Lib.hid hyR
      clear hb hyR
      go_wp2_with fail
      refine (vNew_any _ y).mono ?_
      rintro e w3 ⟨a, S, rfl, hr, hb, hlo⟩
      rw [HY.out] at hr
      have hbk : (wo.alloc (.cells #[.int .i64 y, .int .i64 R] 82)).heap[wo.heap.size]? = some (.cells #[.int .i64 y, .int .i64 R] 82 (0, 0)) := heap_alloc_new wo _
      have HK : Hid (RmK wo w3 a R wo.heap.size 0 0 y) := Lib.hid ⟨⟨S, hr, fun i hi => by have := hlo i hi; simp at this; omega⟩, (hb.block _ (by simp)).trans hbk, nextB (below_alloc _ _) hb⟩
      have HBB : Hid (∀ w', Below wo.heap.size wo w' → Below wp.heap.size wp w') := Lib.hid fun w' h => nextB HB.out h
      have hmin0 : min 0 R = 0 := by omega
      clear hr hb hlo hbk
      go_wp2_with fail
      go_loopw [10] (fun i wq => ∃ m : Nat, m ≤ 70 ∧ i = .int .i64 m ∧ RmK wo wq a R wo.heap.size 0 (min m R) y) (fun i _ => 70 - (intOf i).toNat)
      case atStart => exact ⟨0, by omega, rfl, by rw [hmin0]; exact HK.out⟩
      case round =>
        obtain ⟨q, hq, rfl, hv⟩ := hrel
        have HV := Lib.hid hv
        by_cases hqk : q < 70
        · obtain ⟨S1, hr, hlo⟩ := hv.rg
          have c1 : wr.cell? ⟨wo.heap.size, 1, none⟩ = some (.int .i64 R) := cell_blk hv.bx 1
          have HLO := Lib.hid hlo
          have HPU : Hid (∀ w', RgV w' S1 a R (seqF (fR R) 0 (min q R)) → Calls Try.prog 39 #[.pointer (some ⟨a, 0, none⟩), .agg #[.int .i32 q, .int .i64 0, .int .i64 0, .slice none 0 0, .int .i32 0, .int .i32 0, .int .i32 0, .int .i32 0, .int .i64 0, .int .i64 0, .int .u32 0, .int .i64 0]] w' (VPush w' S1 a R (seqF (fR R) 0 (min q R)) (idT (q : Int)))) := Lib.hid fun w' h => push_lit h _
          have HR := Lib.hid hr
          have HD : Hid (decide ((seqF (fR R) 0 (min q R)).length < R) = decide (q < R)) := Lib.hid (room_len _ q R)
          have HN : Hid ((if (seqF (fR R) 0 (min q R)).length < R then seqF (fR R) 0 (min q R) ++ [idT (q : Int)] else seqF (fR R) 0 (min q R)) = seqF (fR R) 0 (min (q + 1) R)) := Lib.hid (room_push q R)
          have HWQ : Hid (IntKind.i32.wrap (q : Int) = q) := Lib.hid (IntWalk.i32_in _ (by omega))
          obtain ⟨dB, hdB⟩ : ∃ d, decide (q < R) = d := ⟨_, rfl⟩
          have hdI : decide ((q : Int) < (R : Int)) = dB := by rw [← hdB, decide_eq_decide]; omega
          have hbb : (dB != dB) = false := bne_self_eq_false dB
          rw [hdB] at HD
          clear hv hr hlo
          go_wp2_with fail
          have hwq := HWQ.out
          go_region_law
            (first
              | (refine step_go rfl ?_; go_simp; (with_reducible refine (HPU.out _ ?_).mono ?_); exact HR.out.below ⟨rfl, rfl, rfl, Nat.le_refl _, fun _ _ => rfl⟩; rintro e wA ⟨S2, rfl, hr, hst⟩
                 rw [HD.out]
                 rw [HN.out] at hr
                 have HKA : Hid (RmK wo wA a R wo.heap.size 0 (min (q + 1) R) y) := Lib.hid (RmK.step HV.out HLO.out hr ⟨⟨hst.frm.os, hst.frm.tape, hst.frm.output, hst.frm.size, hst.frm.block⟩, hst.old, hst.lt⟩)
                 have cA : wA.cell? ⟨wo.heap.size, 1, none⟩ = some (.int .i64 R) := cell_blk HKA.out.bx 1
                 clear hr hst))
          all_goals
            clear hwq
            go_wp2_with fail
            go_roundw
            case rel => exact ⟨q + 1, by omega, by go_num, HKA.out⟩
            case measure => simp [intOf]; omega
        · obtain rfl : q = 70 := by omega
          rw [show ((70 : Nat) : Int) = 70 from rfl]
          have hmin : min 70 R = R := by omega
          rw [hmin] at HV hv
          obtain ⟨S1, hr, hlo⟩ := hv.rg
          have c1 : wr.cell? ⟨wo.heap.size, 1, none⟩ = some (.int .i64 R) := cell_blk hv.bx 1
          have HL1 := Lib.hid (fun w' (h : Below wr.heap.size wr w') => vLen_any (hr.below h))
          have HL2 := Lib.hid (fun w' (h : Below wr.heap.size wr w') => vRoom_any (hr.below h))
          rw [seqF_len] at HL1
          have hbb : ((R : Int) != (R : Int)) = false := bne_self_eq_false _
          have HQL := Lib.hid (fun n => quiet_flip (HL1.out (wr.drewN n) (below_drewN (Below.refl _ _) n)))
          have HQR := Lib.hid (fun n => quiet_flip (HL2.out (wr.drewN n) (below_drewN (Below.refl _ _) n)))
          have HV2 := Lib.hid (fun n => HV.out.below (below_drewN (Below.refl _ _) n))
          clear hv hr hlo HL1 HL2
          go_wp2_with fail
          go_quiet (first | (go_at_call 48; with_reducible exact Calls.quiet_of_same (HQL.out _)) | (go_at_call 38; with_reducible exact Calls.quiet_of_same (HQR.out _)))
          clear hbb
          go_wp2_with fail
          go_loopw [11] (fun i wq => ∃ m : Nat, m ≤ 200 ∧ i = .int .i64 m ∧ RmK wo wq a R wo.heap.size m R y) (fun i _ => 200 - (intOf i).toNat)
          case atStart => exact ⟨0, by omega, rfl, HV2.out _⟩
          case round =>
            clear HV2 HQL HQR
            obtain ⟨m, hm2, rfl, hv⟩ := hrel
            have HV := Lib.hid hv
            by_cases hm200 : m < 200
            · obtain ⟨S1, hr, hlo⟩ := hv.rg
              have HLO := Lib.hid hlo
              have HST := Lib.hid (steal_seq hRb.1 hr)
              obtain ⟨t, ht⟩ : ∃ t, fR R m = t := ⟨_, rfl⟩
              have HT : Hid (m < R → t.id = (m : Int)) := Lib.hid (by rw [← ht]; intro h; unfold fR; rw [if_pos h]; rfl)
              rw [ht] at HST
              clear hv hr hlo ht
              go_wp2_with fail
              refine HST.out.mono ?_
              rintro e w4 ⟨s4, T4, rfl, hs, _, hr, hst⟩
              obtain ⟨A4, n4, c4, rfl⟩ := hs.shape
              have H4 := Lib.hid (RmK.step HV.out HLO.out hr hst)
              clear hr hst hs
              have HZ4 : Hid ((w4.alloc (.cells (taskA zT nilV) 51)).heap[w4.heap.size]? = some (.cells (taskA zT nilV) 51 (0, 0))) := Lib.hid (heap_alloc_new w4 _)
              obtain ⟨w5, hw5⟩ : ∃ x, x = (w4.alloc (.cells #[.int .i32 0, .int .i64 0, .int .i64 0, .slice none 0 0, .int .i32 0, .int .i32 0, .int .i32 0, .int .i32 0, .int .i64 0, .int .i64 0, .int .u32 0, .int .i64 0] 51)).setRow w4.heap.size (taskA t (.slice A4 n4 c4)) := ⟨_, rfl⟩
              have HX4 : Hid (w5.heap[w4.heap.size]? = some (.cells (taskA t (.slice A4 n4 c4)) 51 (0, 0))) := Lib.hid (by rw [hw5]; exact row_at HZ4.out _)
              have B4 : Hid (Below w4.heap.size w4 w5) := Lib.hid (by rw [hw5]; exact (below_alloc w4 _).trans (row_below (Nat.le_refl _)))
              have hs4 : w5.heap.size = w4.heap.size + 1 := by rw [hw5]; simp [World.setRow]
              have HW4 := Lib.hid hw5
              clear hw5
              have H5 := Lib.hid (H4.out.below B4.out)
              obtain ⟨S5, hr5, hlo5⟩ := H5.out.rg
              have HP5 := Lib.hid (push_seq hRb.1 hr5)
              have HLO5 := Lib.hid hlo5
              have c5 : w5.cell? ⟨wo.heap.size, 1, none⟩ = some (.int .i64 R) := cell_blk H5.out.bx 1
              clear hr5 hlo5
              by_cases hmR : m < R
              · have x4 : w5.cell? ⟨w4.heap.size, 0, none⟩ = some (.int .i32 (m : Int)) := by rw [← HT.out hmR]; exact cell_blk HX4.out 0
                have z1 : decide ((m : Int) < (R : Int)) = true := by simp; omega
                have z2 : ((m : Int) != (m : Int)) = false := bne_self_eq_false _
                go_wp2_with (first | (refine store_task rfl _ _ rfl rfl w4.heap.size t (.slice A4 n4 c4) rfl rfl _ _ _ HZ4.out rfl ?_; rw [← HW4.out]) | fail)
                refine HP5.out.mono ?_
                rintro e w6 ⟨rfl, S6, hr6, hst6⟩
                have H6 := Lib.hid (RmK.step H5.out HLO5.out hr6 hst6)
                have HP6 := Lib.hid (push_full hr6)
                have HLO6 := Lib.hid (fun i (hi : S6 i) => (⟨hst6.low (fun i hi => (HLO5.out i hi).1) H5.out.bl.size i hi, fun e => hst6.apart (T := fun j => j = wo.heap.size) (fun i e => by rw [e]; exact (Array.getElem?_eq_some_iff.1 H5.out.bx).1) (fun i hi e => (HLO5.out i hi).2 e) i hi e⟩ : wo.heap.size ≤ i ∧ i ≠ wo.heap.size))
                clear hr6 hst6
                go_wp2_with fail
                refine HP6.out.mono ?_
                rintro e w7 ⟨rfl, S7, hr7, hst7⟩
                have H7 := Lib.hid (RmK.step H6.out HLO6.out hr7 hst7)
                clear hr7 hst7
                go_wp2_with fail
                go_roundw
                case rel => exact ⟨m + 1, by omega, by go_num, H7.out⟩
                case measure => simp [intOf]; omega
              · have z1 : decide ((m : Int) < (R : Int)) = false := by simp; omega
                go_wp2_with (first | (refine store_task rfl _ _ rfl rfl w4.heap.size t (.slice A4 n4 c4) rfl rfl _ _ _ HZ4.out rfl ?_; rw [← HW4.out]) | fail)
                refine HP5.out.mono ?_
                rintro e w6 ⟨rfl, S6, hr6, hst6⟩
                have H6 := Lib.hid (RmK.step H5.out HLO5.out hr6 hst6)
                have HP6 := Lib.hid (push_full hr6)
                have HLO6 := Lib.hid (fun i (hi : S6 i) => (⟨hst6.low (fun i hi => (HLO5.out i hi).1) H5.out.bl.size i hi, fun e => hst6.apart (T := fun j => j = wo.heap.size) (fun i e => by rw [e]; exact (Array.getElem?_eq_some_iff.1 H5.out.bx).1) (fun i hi e => (HLO5.out i hi).2 e) i hi e⟩ : wo.heap.size ≤ i ∧ i ≠ wo.heap.size))
                clear hr6 hst6
                go_wp2_with fail
                refine HP6.out.mono ?_
                rintro e w7 ⟨rfl, S7, hr7, hst7⟩
                have H7 := Lib.hid (RmK.step H6.out HLO6.out hr7 hst7)
                clear hr7 hst7
                go_wp2_with fail
                go_roundw
                case rel => exact ⟨m + 1, by omega, by go_num, H7.out⟩
                case measure => simp [intOf]; omega
            · obtain rfl : m = 200 := by omega
              have HFB := Lib.hid (HBB.out _ HV.out.bl)
              go_wp2_with fail
              go_roundw
              case rel => exact ⟨j + 1, by omega, by go_num, HFB.out⟩
              case measure => simp [intOf]; omega
    · obtain rfl : j = 2 := by omega
      go_wp2_with fail
      go_ret
      exact ⟨rfl, nextB BP.out HB.out⟩

/- The claim. -/

set_option maxRecDepth 100000 in
theorem lifted (os : Os) (started : os.Started) (H : Type) (enc : TypeId × Value → H) :
    ReturnsInHanded {} Try.checked os 8 .any (Rows.ringRoomsSpec.pre6 enc Try.prog Try.f8 Rows.ringRoomsRow.domain false) (Rows.ringRoomsSpec.post enc Try.prog Try.f8 false true false false) := by
  refine returnsInHanded_of_change (C := Try.checked) ownKnobs started (by kernel_rfl) Try.func8
    (ChangeSpec.witness6 (enc := enc) (C := Try.checked) false ⟨#[], #[.int .i64 0, .int .u8 0], []⟩ 8 (by kernel_rfl) (by kernel_rfl) (by kernel_rfl) (by kernel_rfl)) ?_
  intro W base args ds gs before hval hW _ _
  refine law_contract rfl rfl (fun ds h => by match ds, h with | [d1, d2], _ => rfl) (by decide +kernel) hW ?_
  obtain ⟨p, q, hA0, _⟩ := hW
  have hA : DataW.TrodAll enc Try.prog W 0 (fun _ => true) true Try.f8.params.toList args.toList ds p := hA0
  have hval' : ∀ (j : Nat) t v, Try.f8.params[j]? = some t → args[j]? = some v → Value.okWide Try.prog W .any base t v := hval
  rw [Try.params8] at hA hval'
  obtain ⟨v0, vs0, d0, ds0, p0, q0, hargs, rfl, rfl, h0, r0⟩ := trodAll_cons hA
  obtain ⟨v1, vs1, d1, ds1, p1, q1, rfl, rfl, rfl, h1, r1⟩ := trodAll_cons r0
  obtain ⟨rfl, rfl, rfl⟩ := trodAll_nil r1
  obtain rfl : args = #[v0, v1] := by cases args; simp_all
  obtain ⟨a0, rfl, rfl, rfl, w0⟩ := open_int Try.underlying3 (hval' 0 _ v0 rfl rfl) h0
  have b0 : -9223372036854775808 ≤ a0 ∧ a0 ≤ 9223372036854775807 := by simpa [Lit.wf, IntKind.min, IntKind.max, IntKind.signed, IntKind.bits] using w0
  obtain ⟨z1, rfl, rfl, rfl, w1⟩ := open_int Try.underlying5 (hval' 1 _ v1 rfl rfl) h1
  have b1 : 0 ≤ z1 ∧ z1 ≤ 255 := by simpa [Lit.wf, IntKind.min, IntKind.max, IntKind.signed, IntKind.bits] using w1
  obtain ⟨a1, rfl⟩ : ∃ n : Nat, z1 = n := ⟨z1.toNat, by omega⟩
  exact walk a0 a1 W b0 (by omega)

theorem proved : Rows.RingRoomsSaid :=
  OpenClaim.holds_of_wide 8 Try.f8 rfl rfl rfl rfl rfl rfl rfl ⟨rfl, rfl, rfl, rfl, rfl⟩ rfl rfl rfl rfl rfl (by kernel_rfl) Try.func8 (by kernel_rfl)
    (of_decide_eq_true (by kernel_rfl)) (by unfold Func.isWrapper; first | (rw [if_pos (by decide +kernel)]; kernel_rfl) | (rw [if_neg (by decide +kernel)]; exact ⟨rfl, rfl⟩))
    (fun os started H enc _ => lifted os started H enc)

end Go.Proofs.Ytlmbjnegajiphaa.ringRooms
