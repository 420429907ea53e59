/- The instruction that bytes begin with, by package instr. -/
import Derived.Test.YtmcniddpjpbghaaDoorPutI
import Derived.Test.YtmcniddpjpbghaaDoorRegion
import Derived.Test.YtmcniddpjpbghaaDoorRes
import Derived.Deep.CutRange
import Derived.Deep.DeepCutAuto
namespace Go.Proofs.YtmcniddpjpbghaaDoor
set_option maxRecDepth 100000
open Go.RowKit

def i32of (n : Nat) : Int := if n < 2147483648 then n else (n : Int) - 4294967296
theorem i32of_range {n : Nat} (h : n ≤ 4294967295) : I32 (i32of n) := by unfold i32of I32; split <;> omega
theorem i32of_argW {arg : Int} (h : I32 arg) : i32of (argW arg) = arg := by
  obtain ⟨h1, h2⟩ := h
  unfold i32of argW; split <;> omega
theorem numR_most (most : Nat) (st : RS) : (numR most st).1 ≤ most := by
  unfold numR
  split
  · simp
  · split
    · simp
    · split
      · simp
      · simp only; omega
/-- What is left behind the number of an instruction, and behind its argument; the argument. -/
def opR (st : RS) : Nat × RS := numR 9223372036854775807 st
def argR (st : RS) : Nat × RS := if argZ (opR st).1 = 0 then (0, (opR st).2) else numR 4294967295 (opR st).2
def argI (st : RS) : Int := if argZ (opR st).1 = 0 then 0 else i32of (argR st).1
/-- The instruction that the bytes begin with, and what is left. -/
def takeOk (st : RS) : Bool := decide ((argR st).2.2 = 0) && rightB (opR st).1 (argI st)
theorem argI_range (st : RS) : I32 (argI st) := by
  unfold argI
  split
  · unfold I32; omega
  · refine i32of_range ?_
    rename_i h
    unfold argR
    rw [if_neg h]; exact numR_most _ _

theorem known_any' {val : Nat → Value} {sp : List Nat} {i : Nat} {v : Value} {w w' : World} (h : Reg.Known val (fun _ _ _ => True) sp i v w) : Reg.Known val (fun _ _ _ => True) sp i v w' := ⟨h.plain, fun _ => trivial⟩
/-- What stays while a right instruction is asked for. -/
structure StT (wx : World) (B g : Nat) (st : RS) (t4 q : Nat) (op x : Int) (k : Nat) (w : World) : Prop where
  rd : Rd w B g 75 st
  i : w.heap[t4]? = some (.cells #[.int .i64 op, .int .i32 x] 23 (0, 0))
  res : w.heap[q]? = some (.cells (if k = 0 then #[.int .i64 0, .int .i32 0] else #[.int .i64 op, .int .i32 x]) 23 (0, 0))
  grown : wx.grownBy w (some q)
  ne : t4 ≠ q ∧ g ≠ q ∧ B ≤ q ∧ q < wx.heap.size
section
variable {wx w w' : World} {B g t4 q k : Nat} {st : RS} {op x : Int}
theorem StT.step (h : StT wx B g st t4 q op x k w) (hb : Below w.heap.size w w') : StT wx B g st t4 q op x k w' :=
  ⟨h.rd.below hb, (hb.block t4 (Array.getElem?_eq_some_iff.1 h.i).1).trans h.i, (hb.block q (Array.getElem?_eq_some_iff.1 h.res).1).trans h.res, grown_below h.grown (hb.mono h.grown.size), h.ne⟩
theorem StT.drew (h : StT wx B g st t4 q op x k w) : StT wx B g st t4 q op x k w.drew := h.step (Below.refl _ _).drew
theorem StT.i0 (h : StT wx B g st t4 q op x k w) : w.cell? ⟨t4, 0, none⟩ = some (.int .i64 op) := cell_blk h.i 0
theorem StT.i1 (h : StT wx B g st t4 q op x k w) : w.cell? ⟨t4, 1, none⟩ = some (.int .i32 x) := cell_blk h.i 1
theorem StT.q0 (h : StT wx B g st t4 q op x 0 w) : w.cell? ⟨q, 0, none⟩ = some (.int .i64 0) := cell_blk h.res 0
theorem StT.q1 (h : StT wx B g st t4 q op x 0 w) : w.cell? ⟨q, 1, none⟩ = some (.int .i32 0) := cell_blk h.res 1
theorem StT.f0 (h : StT wx B g st t4 q op x k w) : w.frozen? ⟨q, 0, none⟩ = false := frozen_blk h.res 0
theorem StT.f1 (h : StT wx B g st t4 q op x k w) : w.frozen? ⟨q, 1, none⟩ = false := frozen_blk h.res 1
theorem heap_set {w : World} {q i j : Nat} {v : Value} (h : j ≠ q) : (w.setCell ⟨q, i, none⟩ v).heap[j]? = w.heap[j]? := by
  simp only [World.setCell, Array.getElem?_modify]
  rw [if_neg (fun e => h e.symm)]
theorem StT.store (h : StT wx B g st t4 q op x 0 w) : StT wx B g st t4 q op x (0 + 1) ((w.setCell ⟨q, 0, none⟩ (.int .i64 op)).setCell ⟨q, 1, none⟩ (.int .i32 x)) := by
  obtain ⟨n1, n2, n3, n4⟩ := h.ne
  have hg := grown_setCell (grown_setCell (grown_refl w (some q)) 0 (.int .i64 op)) 1 (.int .i32 x)
  refine ⟨h.rd.keep hg (fun e => n2 (by injection e)) (fun k e => by injection e with e; omega), ?_, ?_, grown_setCell (grown_setCell h.grown _ _) _ _, h.ne⟩
  · rw [heap_set n1, heap_set n1]; exact h.i
  · have := set_blk (set_blk h.res 0 (.int .i64 op)) 1 (.int .i32 x)
    simpa using this
end

def ti4Val (op : Nat) (x : Int) (g _t4 _q : Nat) (r : Bool) : Nat → Value
  | 0 => .agg #[.int .i64 op, .int .i32 x]
  | 1 => .pointer (some ⟨g, 0, none⟩)
  | 2 => .int .i64 0
  | 3 => .bool true
  | 4 => .bool true
  | 5 => .agg #[.int .i64 op, .int .i32 x]
  | 6 => .bool r
  | 7 => .bool r
  | 9 => .bool r
  | _ => undef

def tj4Val (op : Nat) (x er : Int) (g _t4 _q : Nat) : Nat → Value
  | 0 => .agg #[.int .i64 op, .int .i32 x]
  | 1 => .pointer (some ⟨g, 0, none⟩)
  | 2 => .int .i64 er
  | 3 => .bool false
  | 4 => .bool false
  | 5 => undef
  | 6 => undef
  | 7 => .bool false
  | 9 => .bool false
  | _ => undef


set_option maxHeartbeats 4000000 in
theorem take1_any (B g : Nat) (st : RS) (w : World) (h : Rd w B g 75 st) :
    Calls Tryd.prog 41 #[.pointer (some ⟨g, 0, none⟩)] w fun e w' =>
      e = .returned (.tuple #[insV (opR st).1 (argI st), .bool (takeOk st)]) ∧ Rd w' B g 75 (argR st).2 ∧ w.grownBy w' (some g) := by
  have hm := numR_most 9223372036854775807 st
  have hlt := h.lt
  have hle := h.le
  have hx := argI_range st
  obtain ⟨op, hop⟩ : ∃ op, (opR st).1 = op := ⟨_, rfl⟩
  obtain ⟨st1, hst1⟩ : ∃ s, (opR st).2 = s := ⟨_, rfl⟩
  obtain ⟨z, hz⟩ : ∃ z, argZ op = z := ⟨_, rfl⟩
  obtain ⟨x, hx2⟩ : ∃ x, argI st = x := ⟨_, rfl⟩
  obtain ⟨st2, hst2⟩ : ∃ s, (argR st).2 = s := ⟨_, rfl⟩
  obtain ⟨r, hr0⟩ : ∃ r, rightB op x = r := ⟨_, rfl⟩
  obtain ⟨ok, hok⟩ : ∃ r, takeOk st = r := ⟨_, rfl⟩
  have e0 : numR 9223372036854775807 st = (op, st1) := by rw [← hop, ← hst1]; rfl
  have e1 : Hid (z = 0 → x = 0 ∧ st2 = st1) := Lib.hid fun h0 => by
    rw [← hx2, ← hst2, ← hst1]; unfold argI argR; rw [hop, hz, if_pos h0, if_pos h0]; exact ⟨rfl, rfl⟩
  have e2 : Hid (z ≠ 0 → x = i32of (numR 4294967295 st1).1 ∧ st2 = (numR 4294967295 st1).2) := Lib.hid fun h0 => by
    rw [← hx2, ← hst2, ← hst1]; unfold argI argR; rw [hop, hz, if_neg h0, if_neg h0]; exact ⟨rfl, rfl⟩
  have e3 : Hid (ok = (decide (st2.2 = 0) && r)) := Lib.hid (by rw [← hok, ← hr0, ← hst2, ← hop, ← hx2]; rfl)
  have HR : Hid (∀ w, Calls Tryd.prog 10 #[insV op x] w fun e w' => e = .returned (.bool r) ∧ Below w.heap.size w w') := Lib.hid fun w => by rw [← hr0]; exact right_any op x w
  have HH : Hid (∀ w, Calls Tryd.prog 29 #[.int .i64 op] w fun e w' => e = .returned (.bool (z != 0)) ∧ Below w.heap.size w w') := Lib.hid fun w => by rw [← hz]; exact hasArg_any op w
  rw [hop, hx2, hst2, hok]
  rw [e0] at hm
  rw [hx2] at hx
  have hb := below_alloc w (.cells #[.int .i64 0, .int .i32 0] 23)
  have hr := Lib.hid (h.below hb)
  have HG0 := Lib.hid (grown_below (grown_refl w (some g)) hb)
  have hq0 := heap_alloc_new w (.cells #[.int .i64 0, .int .i32 0] 23)
  obtain ⟨hx0, hx1⟩ := hx
  clear hb h hop hst1 hz hx2 hst2 hr0 hok
  dsimp only at hm
  unfold insV at HR ⊢
  have E0 := Lib.hid e0; clear e0
  go_enter Tryd.func41, Tryd.ntmps41
  go_wp2_with fail
  refine (num_any B g st 9223372036854775807 _ (by omega) hr.out).mono ?_
  rw [E0.out]
  rintro e w2 ⟨rfl, R2, g2⟩
  have hq2 := (g2.block w.heap.size (by simp) (by intro e; injection e; omega)).trans hq0
  have G2 := Lib.hid (grown_trans HG0.out g2)
  have RR := Lib.hid R2
  have hs2 : w.heap.size < w2.heap.size := by have := g2.size; simp at this; omega
  obtain ⟨q, hq⟩ : ∃ q, w.heap.size = q := ⟨_, rfl⟩
  have HQ2 := Lib.hid hq2
  obtain ⟨t4, ht4⟩ : ∃ t4, w2.heap.size = t4 := ⟨_, rfl⟩
  have hg2 := RR.out.lt
  have hn4 := heap_alloc_new w2 (.cells #[.int .i64 op, .int .i32 0] 23)
  have hb4 := below_alloc w2 (.cells #[.int .i64 op, .int .i32 0] 23)
  clear hq0 hq2 g2 R2 HG0 hr
  dsimp only
  go_wp2_with fail
  refine (HH.out _).mono ?_
  rintro e w3 ⟨rfl, hb⟩
  have h43 := hb4.trans (hb.mono (by simp))
  have hs3 : t4 < w3.heap.size := by have := hb.size; simp at this; omega
  have hi3 : w3.heap[t4]? = some (.cells #[.int .i64 op, .int .i32 0] 23 (0, 0)) := by rw [← ht4]; exact (hb.block w2.heap.size (by simp)).trans hn4
  have hq3 : w3.heap[q]? = some (.cells #[.int .i64 0, .int .i32 0] 23 (0, 0)) := (h43.block q (by omega)).trans (by rw [← hq]; exact HQ2.out)
  have R3 := Lib.hid (RR.out.below h43)
  have G3 := Lib.hid (grown_below G2.out (h43.mono (by omega)))
  have HQ3 := Lib.hid hq3; have HI3 := Lib.hid hi3
  clear hb h43 hb4 hn4 hi3 hq3 HQ2 G2 RR
  go_upto_if 11 with (fail)
  go_cut [] from 11 to 16 (fun wx => wx.heap[q]? = some (.cells #[.int .i64 0, .int .i32 0] 23 (0, 0)) ∧ wx.heap[t4]? = some (.cells #[.int .i64 op, .int .i32 x] 23 (0, 0)) ∧ Rd wx B g 75 st2 ∧ w.grownBy wx (some g))
  case first =>
    by_cases h0 : z = 0
    · subst h0
      obtain ⟨rfl, rfl⟩ := e1.out rfl
      go_wp2_with fail
      go_meet
      exact ⟨HQ3.out, HI3.out, R3.out, G3.out⟩
    · have hz2 : (z != 0) = true := by simpa using h0
      rw [hz2]
      obtain ⟨e4, e5⟩ := e2.out h0
      have hmn := numR_most 4294967295 st1
      obtain ⟨a, ha⟩ : ∃ a, numR 4294967295 st1 = a := ⟨_, rfl⟩
      obtain ⟨m, st3⟩ := a
      rw [ha] at e4 e5 hmn
      dsimp only at e4 e5 hmn
      subst e5
      have E4 := Lib.hid e4
      have E5 := Lib.hid ha; clear ha e4
      go_wp2_with fail
      refine (num_any B g st1 4294967295 w3 (by omega) R3.out).mono ?_
      rw [E5.out]
      rintro e w4 ⟨rfl, R4, g4⟩
      have hi4 := (g4.block t4 hs3 (by intro e; injection e; omega)).trans HI3.out
      have hq4 := (g4.block q (by omega) (by intro e; injection e; omega)).trans HQ3.out
      have G4 := Lib.hid (grown_trans G3.out g4)
      have RR4 := Lib.hid R4
      have hc4 : w4.cell? ⟨t4, 1, none⟩ = some (.int .i32 0) := cell_blk hi4 1
      have hf4 : w4.frozen? ⟨t4, 1, none⟩ = false := frozen_blk hi4 1
      have HI4 := Lib.hid hi4; have HQ4 := Lib.hid hq4
      clear R4 g4 hi4 hq4
      dsimp only
      have ew : wrap32 (m : Int) = x := by rw [E4.out]; unfold wrap32 i32of; split <;> omega
      have hqt : q ≠ t4 := by omega
      have hgt : g ≠ t4 := by omega
      have hBt : B ≤ t4 := by omega
      go_wp2_with fail
      go_meet
      have hgr := grown_setCell (grown_refl w4 (some t4)) 1 (.int .i32 x)
      refine ⟨(heap_set hqt).trans HQ4.out, by simpa using set_blk HI4.out 1 (.int .i32 x), RR4.out.keep hgr (fun e => hgt (by injection e)) (fun k e => by injection e with e; omega), ?_⟩
      refine ⟨G4.out.os, G4.out.tape, G4.out.output, by simpa [World.setCell] using G4.out.size, fun k hk hne => ?_⟩
      rw [heap_set (by omega)]
      exact G4.out.block k hk hne
  case rest =>
    obtain ⟨hq5, hi5, R5, G5⟩ := hcut
    have hs5 := (Array.getElem?_eq_some_iff.1 hq5).1
    obtain ⟨wx, hwx⟩ : ∃ wx, wx = wc := ⟨_, rfl⟩
    rw [← hwx] at hq5 hi5 R5 G5 hs5
    rw [← hwx]
    clear hwx HI3 HQ3 R3 G3 e1 e2
    obtain ⟨l2, er⟩ := st2
    have HST : Hid (StT wx B g (l2, er) t4 q op x 0 wx) := Lib.hid ⟨R5, hi5, hq5, grown_refl _ _, by omega, by omega, by omega, hs5⟩
    have GX := Lib.hid G5
    have E3 := Lib.hid (show ok = (decide (er = 0) && r) from e3.out)
    have HQ := Lib.hid hq
    clear hq5 hi5 R5 G5 e3 hq ht4
    by_cases her : er = 0
    · subst her
      have eok : r = ok := by rw [E3.out]; simp
      subst eok
      clear E3
      go_upto_region 4 with (fail)
      refine Reg.wp_facts_sl [17, 18, 19, 20, 21, 22, 23, 24, 3] rfl [8] [[], [], [(1, 18)], [(2, 19)], [(3, 20)], [], [(5, 22)], [(4, 21), (6, 23)], [(0, 17)], [(7, 24)]] [(9, 3)] (Reg.Known (ti4Val op x g t4 q r) (fun _ _ _ => True) [8]) (StT wx B g (l2, 0) t4 q op x) (by kernel_rfl) (by kernel_rfl) ?start ?steps ?finish
      case start => exact HST.out.drew
      case steps =>
        refine Reg.Steps.zip ?_ ?_
        · refine Reg.step_go rfl ?_
          intro a wi ki hf hd hS hc K hK
          have f4 : a.tmps.getD 4 undef = .pointer (some ⟨t4, 0, none⟩) := hf.same 4 rfl
          clear hf hd hc
          have cc0 := hS.i0
          have cc1 := hS.i1
          have hK0 := Lib.hid hK; clear hK
          have hS0 := Lib.hid hS; clear hS
          go_simp
          exact hK0.out _ _ (Reg.Known.mk_val rfl rfl) (fun _ _ h => h) hS0.out
        refine Reg.Steps.zip ?_ ?_
        · refine Reg.step_go rfl ?_
          intro a wi ki hf hd hS hc K hK
          have f0 : a.tmps.getD 0 undef = .pointer (some ⟨g, 0, none⟩) := hf.same 0 rfl
          clear hf hd hc
          have hK0 := Lib.hid hK; clear hK
          have hS0 := Lib.hid hS; clear hS
          go_simp
          exact hK0.out _ _ (Reg.Known.mk_val rfl rfl) (fun _ _ h => h) hS0.out
        refine Reg.Steps.zip ?_ ?_
        · refine Reg.step_go rfl ?_
          intro a wi ki hf hd hS hc K hK
          have e18 : a.tmps.getD 18 undef = .pointer (some ⟨g, 0, none⟩) := hd.1.plain rfl
          clear hf hd
          have HS := Lib.hid hS; clear hS
          have hK0 := Lib.hid hK; clear hK hc
          go_simp
          refine (err_any B g (l2, 0) wi HS.out.rd).mono ?_
          rintro e wA ⟨rfl, rfl⟩
          exact hK0.out _ _ (Reg.Known.mk_val rfl rfl) (fun _ _ h => h) HS.out
        refine Reg.Steps.zip ?_ ?_
        · refine Reg.step_go rfl ?_
          intro a wi ki hf hd hS hc K hK
          have e19 : a.tmps.getD 19 undef = .int .i64 0 := hd.1.plain rfl
          clear hf hd hc
          have hK0 := Lib.hid hK; clear hK
          have hS0 := Lib.hid hS; clear hS
          go_simp
          exact hK0.out _ _ (Reg.Known.mk_val rfl rfl) (fun _ _ h => h) hS0.out
        refine Reg.Steps.zip ?_ ?_
        · refine Reg.step_go rfl ?_
          intro a wi ki hf hd hS hc K hK
          have e20 : a.tmps.getD 20 undef = .bool true := hd.1.plain rfl
          clear hf hd hc
          have hK0 := Lib.hid hK; clear hK
          have hS0 := Lib.hid hS; clear hS
          go_simp
          exact hK0.out _ _ (Reg.Known.mk_val rfl rfl) (fun _ _ h => h) hS0.out
        refine Reg.Steps.zip ?_ ?_
        · refine Reg.step_on rfl (fun u w h => h.plain rfl) ?_
          intro a wi ki hf hd hS hc K hK
          have f4 : a.tmps.getD 4 undef = .pointer (some ⟨t4, 0, none⟩) := hf.same 4 rfl
          clear hf hd hc
          have cc0 := hS.i0
          have cc1 := hS.i1
          have hK0 := Lib.hid hK; clear hK
          have hS0 := Lib.hid hS; clear hS
          go_simp
          exact hK0.out _ _ (Reg.Known.mk_val rfl rfl) (fun _ _ h => h) hS0.out
        refine Reg.Steps.zip ?_ ?_
        · refine Reg.step_on rfl (fun u w h => h.plain rfl) ?_
          intro a wi ki hf hd hS hc K hK
          have e22 : a.tmps.getD 22 undef = .agg #[.int .i64 op, .int .i32 x] := hd.1.plain rfl
          clear hf hd
          have HS := Lib.hid hS; clear hS
          have hK0 := Lib.hid hK; clear hK hc
          go_simp
          refine (HR.out wi).mono ?_
          rintro e wA ⟨rfl, hbA⟩
          exact hK0.out _ _ (Reg.Known.mk_val rfl rfl) (fun _ _ h => known_any' h) (HS.out.step hbA)
        refine Reg.Steps.zip ?_ ?_
        · refine Reg.step_go rfl ?_
          intro a wi ki hf hd hS hc K hK
          have e21 : a.tmps.getD 21 undef = .bool true := hd.1.plain rfl
          have e23 : a.tmps.getD 23 undef = .bool r := hd.2.1.plain rfl
          clear hf hd hc
          have hK0 := Lib.hid hK; clear hK
          have hS0 := Lib.hid hS; clear hS
          go_simp
          exact hK0.out _ _ (Reg.Known.mk_val rfl rfl) (fun _ _ h => h) hS0.out
        refine Reg.Steps.zip ?_ ?_
        · refine Reg.step_go rfl ?_
          intro a wi ki hf hd hS hc K hK
          have e17 : a.tmps.getD 17 undef = .agg #[.int .i64 op, .int .i32 x] := hd.1.plain rfl
          have f2 : a.tmps.getD 2 undef = .pointer (some ⟨q, 0, none⟩) := hf.same 2 rfl
          clear hf hd
          obtain rfl := hc 0 rfl
          have c0 := hS.q0
          have c1 := hS.q1
          have f0 := hS.f0
          have f1 := hS.f1
          have HS := Lib.hid hS; clear hS
          have hK0 := Lib.hid hK; clear hK hc
          go_simp
          exact hK0.out undef _ (Reg.Known.mk_other rfl trivial) (fun _ _ h => known_any' h) HS.out.store
        refine Reg.Steps.zip ?_ ?_
        · refine Reg.step_go rfl ?_
          intro a wi ki hf hd hS hc K hK
          have e24 : a.tmps.getD 24 undef = .bool r := hd.1.plain rfl
          clear hf hd hc
          have hK0 := Lib.hid hK; clear hK
          have hS0 := Lib.hid hS; clear hS
          go_simp
          exact hK0.out _ _ (Reg.Known.mk_val rfl rfl) (fun _ _ h => h) hS0.out
        exact Reg.Steps.nil
      case finish =>
        intro a w8 hf hd hS
        have c0 : w8.cell? ⟨q, 0, none⟩ = some (.int .i64 op) := cell_blk hS.res 0
        have c1 : w8.cell? ⟨q, 1, none⟩ = some (.int .i32 x) := cell_blk hS.res 1
        have HS8 := Lib.hid hS; clear hS
        obtain ⟨u, hu⟩ : ∃ u : Nat → Value, u = fun s => a.tmps.getD s undef := ⟨_, rfl⟩
        have e3 : u 3 = .bool r := by rw [hu]; exact hd.1.plain rfl
        rw [hf.eq, ← hu]
        clear hf hu hd
        simp (config := { maxSteps := 10000000 }) [Reg.filled, e3]
        clear e3
        go_wp2_with fail
        try simp only [Exit.inBlock, Exit.then]
        refine ret_instr2 rfl rfl rfl HS8.out.res ?_
        refine ⟨rfl, HS8.out.rd, ?_⟩
        refine ⟨HS8.out.grown.os.trans GX.out.os, HS8.out.grown.tape.trans GX.out.tape, HS8.out.grown.output.trans GX.out.output, Nat.le_trans GX.out.size HS8.out.grown.size, fun k hk hne => ?_⟩
        exact (HS8.out.grown.block k (Nat.lt_of_lt_of_le hk GX.out.size) (fun e => by injection e with e; have := HQ.out; omega)).trans (GX.out.block k hk hne)
    · have eok : ok = false := by rw [E3.out]; simp [her]
      subst eok
      have he2 : (er == 0) = false := by simpa using her
      clear E3
      go_upto_region 4 with (fail)
      refine Reg.wp_facts_sl [17, 18, 19, 20, 21, 22, 23, 24, 3] rfl [8] [[], [], [(1, 18)], [(2, 19)], [(3, 20)], [], [(5, 22)], [(4, 21), (6, 23)], [(0, 17)], [(7, 24)]] [(9, 3)] (Reg.Known (tj4Val op x er g t4 q) (fun _ _ _ => True) [8]) (StT wx B g (l2, er) t4 q op x) (by kernel_rfl) (by kernel_rfl) ?start ?steps ?finish
      case start => exact HST.out.drew
      case steps =>
        refine Reg.Steps.zip ?_ ?_
        · refine Reg.step_go rfl ?_
          intro a wi ki hf hd hS hc K hK
          have f4 : a.tmps.getD 4 undef = .pointer (some ⟨t4, 0, none⟩) := hf.same 4 rfl
          clear hf hd hc
          have cc0 := hS.i0
          have cc1 := hS.i1
          have hK0 := Lib.hid hK; clear hK
          have hS0 := Lib.hid hS; clear hS
          go_simp
          exact hK0.out _ _ (Reg.Known.mk_val rfl rfl) (fun _ _ h => h) hS0.out
        refine Reg.Steps.zip ?_ ?_
        · refine Reg.step_go rfl ?_
          intro a wi ki hf hd hS hc K hK
          have f0 : a.tmps.getD 0 undef = .pointer (some ⟨g, 0, none⟩) := hf.same 0 rfl
          clear hf hd hc
          have hK0 := Lib.hid hK; clear hK
          have hS0 := Lib.hid hS; clear hS
          go_simp
          exact hK0.out _ _ (Reg.Known.mk_val rfl rfl) (fun _ _ h => h) hS0.out
        refine Reg.Steps.zip ?_ ?_
        · refine Reg.step_go rfl ?_
          intro a wi ki hf hd hS hc K hK
          have e18 : a.tmps.getD 18 undef = .pointer (some ⟨g, 0, none⟩) := hd.1.plain rfl
          clear hf hd
          have HS := Lib.hid hS; clear hS
          have hK0 := Lib.hid hK; clear hK hc
          go_simp
          refine (err_any B g (l2, er) wi HS.out.rd).mono ?_
          rintro e wA ⟨rfl, rfl⟩
          exact hK0.out _ _ (Reg.Known.mk_val rfl rfl) (fun _ _ h => h) HS.out
        refine Reg.Steps.zip ?_ ?_
        · refine Reg.step_go rfl ?_
          intro a wi ki hf hd hS hc K hK
          have e19 : a.tmps.getD 19 undef = .int .i64 er := hd.1.plain rfl
          clear hf hd hc
          have hK0 := Lib.hid hK; clear hK
          have hS0 := Lib.hid hS; clear hS
          go_simp
          exact hK0.out _ _ (Reg.Known.mk_val rfl rfl) (fun _ _ h => h) hS0.out
        refine Reg.Steps.zip ?_ ?_
        · refine Reg.step_go rfl ?_
          intro a wi ki hf hd hS hc K hK
          have e20 : a.tmps.getD 20 undef = .bool false := hd.1.plain rfl
          clear hf hd hc
          have hK0 := Lib.hid hK; clear hK
          have hS0 := Lib.hid hS; clear hS
          go_simp
          exact hK0.out _ _ (Reg.Known.mk_val rfl rfl) (fun _ _ h => h) hS0.out
        refine Reg.Steps.zip ?_ ?_
        · exact Reg.step_off rfl (fun u w h => h.plain rfl) (fun w => Reg.Known.mk_val rfl rfl) rfl
        refine Reg.Steps.zip ?_ ?_
        · exact Reg.step_off rfl (fun u w h => h.plain rfl) (fun w => Reg.Known.mk_val rfl rfl) rfl
        refine Reg.Steps.zip ?_ ?_
        · refine Reg.step_go rfl ?_
          intro a wi ki hf hd hS hc K hK
          have e21 : a.tmps.getD 21 undef = .bool false := hd.1.plain rfl
          have e23 : a.tmps.getD 23 undef = undef := hd.2.1.plain rfl
          clear hf hd hc
          have hK0 := Lib.hid hK; clear hK
          have hS0 := Lib.hid hS; clear hS
          go_simp
          exact hK0.out _ _ (Reg.Known.mk_val rfl rfl) (fun _ _ h => h) hS0.out
        refine Reg.Steps.zip ?_ ?_
        · refine Reg.step_go rfl ?_
          intro a wi ki hf hd hS hc K hK
          have e17 : a.tmps.getD 17 undef = .agg #[.int .i64 op, .int .i32 x] := hd.1.plain rfl
          have f2 : a.tmps.getD 2 undef = .pointer (some ⟨q, 0, none⟩) := hf.same 2 rfl
          clear hf hd
          obtain rfl := hc 0 rfl
          have c0 := hS.q0
          have c1 := hS.q1
          have f0 := hS.f0
          have f1 := hS.f1
          have HS := Lib.hid hS; clear hS
          have hK0 := Lib.hid hK; clear hK hc
          go_simp
          exact hK0.out undef _ (Reg.Known.mk_other rfl trivial) (fun _ _ h => known_any' h) HS.out.store
        refine Reg.Steps.zip ?_ ?_
        · refine Reg.step_go rfl ?_
          intro a wi ki hf hd hS hc K hK
          have e24 : a.tmps.getD 24 undef = .bool false := hd.1.plain rfl
          clear hf hd hc
          have hK0 := Lib.hid hK; clear hK
          have hS0 := Lib.hid hS; clear hS
          go_simp
          exact hK0.out _ _ (Reg.Known.mk_val rfl rfl) (fun _ _ h => h) hS0.out
        exact Reg.Steps.nil
      case finish =>
        intro a w8 hf hd hS
        have c0 : w8.cell? ⟨q, 0, none⟩ = some (.int .i64 op) := cell_blk hS.res 0
        have c1 : w8.cell? ⟨q, 1, none⟩ = some (.int .i32 x) := cell_blk hS.res 1
        have HS8 := Lib.hid hS; clear hS
        obtain ⟨u, hu⟩ : ∃ u : Nat → Value, u = fun s => a.tmps.getD s undef := ⟨_, rfl⟩
        have e3 : u 3 = .bool false := by rw [hu]; exact hd.1.plain rfl
        rw [hf.eq, ← hu]
        clear hf hu hd
        simp (config := { maxSteps := 10000000 }) [Reg.filled, e3]
        clear e3
        go_wp2_with fail
        try simp only [Exit.inBlock, Exit.then]
        refine ret_instr2 rfl rfl rfl HS8.out.res ?_
        refine ⟨rfl, HS8.out.rd, ?_⟩
        refine ⟨HS8.out.grown.os.trans GX.out.os, HS8.out.grown.tape.trans GX.out.tape, HS8.out.grown.output.trans GX.out.output, Nat.le_trans GX.out.size HS8.out.grown.size, fun k hk hne => ?_⟩
        exact (HS8.out.grown.block k (Nat.lt_of_lt_of_le hk GX.out.size) (fun e => by injection e with e; have := HQ.out; omega)).trans (GX.out.block k hk hne)

end Go.Proofs.YtmcniddpjpbghaaDoor
