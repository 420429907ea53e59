/- The methods of a task's state whose order of evaluation is open. (Drawn: gen/s10.py; written by gen/mkdo10.py.) -/
import Derived.Test.YtjnlgmjcabbaaaaDo10
namespace Go.Proofs.Ytjnlgmjcabbaaaa
set_option maxRecDepth 100000
open Go.RowKit

/-- What some operations of a method are known to make: the pushes, the callee's results, the task of them. -/
def XW (w : World) (z : TK) (k v c : Int) (ps : List Int) (i0 i1 i2 : Nat) (i : Nat) (u : Value) (w' : World) : Prop :=
  (i = i0 → Own32 w' (w.heap.size + 3) u ps) ∧ (i = i1 → NewTO w z k v c u w') ∧ (i = i2 → NewT w z u w')
section
variable {w w' w'' : World} {z : TK} {k v c : Int} {ps : List Int} {i0 i1 i2 i : Nat} {u : Value}
theorem XW.step (h : XW w z k v c ps i0 i1 i2 i u w') (hb : Below w'.heap.size w' w'') : XW w z k v c ps i0 i1 i2 i u w'' := ⟨fun e => (h.1 e).below hb, fun e => (h.2.1 e).step hb, fun e => (h.2.2 e).step hb⟩
theorem XW.row {g : Nat} {cs : Array Value} (h : XW w z k v c ps i0 i1 i2 i u w') (hg : g < w.heap.size + 3) : XW w z k v c ps i0 i1 i2 i u (w'.setRow g cs) := ⟨fun e => (h.1 e).row hg, fun e => (h.2.1 e).row hg, fun e => (h.2.2 e).row hg⟩
theorem XW.mk0 (hne : i0 ≠ i1 ∧ i0 ≠ i2) (h : Own32 w' (w.heap.size + 3) u ps) : XW w z k v c ps i0 i1 i2 i0 u w' := ⟨fun _ => h, fun e => absurd e hne.1, fun e => absurd e hne.2⟩
theorem XW.mk1 (hne : i1 ≠ i0 ∧ i1 ≠ i2) (h : NewTO w z k v c u w') : XW w z k v c ps i0 i1 i2 i1 u w' := ⟨fun e => absurd e hne.1, fun _ => h, fun e => absurd e hne.2⟩
theorem XW.mk2 (hne : i2 ≠ i0 ∧ i2 ≠ i1) (h : NewT w z u w') : XW w z k v c ps i0 i1 i2 i2 u w' := ⟨fun e => absurd e hne.1, fun e => absurd e hne.2, fun _ => h⟩
end

def du1Val (T : Value) (_g : Nat) (y : Int) : Nat → Value
  | 0 => T
  | 1 => T
  | 2 => .int .i32 y
  | 3 => T
  | 4 => .int .i32 y
  | 8 => (outV 1 0 0)
  | 9 => undef
  | 10 => undef
  | _ => undef


set_option maxRecDepth 100000 in
set_option maxHeartbeats 8000000 in
theorem dupM (t : TK) (s : Value) (op x : Int) (h0 : 0 < t.st.length) (w : World) (hs : I32V w w.heap.size s t.st) (hn : t.st.length ≤ 100000) :
    Calls Try.prog 92 #[stV t s op x] w (TO w (wentZ t op [topZ t.st 0, topZ t.st 0]) 1 0 0) := by
  obtain ⟨y, hy⟩ : ∃ y, topZ t.st 0 = y := ⟨_, rfl⟩
  have HT0 : Hid (∀ w, I32V w w.heap.size s t.st → Calls Try.prog 118 #[stV t s op x, .int .i64 0] w fun e w' => e = .returned (.int .i32 y) ∧ Below w.heap.size w w') := Lib.hid fun w h1 => by rw [← hy]; exact fromTop_any t s op x 0 w h1 hn h0
  rw [hy]
  obtain ⟨z, hz⟩ : ∃ z, wentZ t op [y, y] = z := ⟨_, rfl⟩
  have HW : Hid (∀ w s2, I32V w w.heap.size s t.st → I32V w w.heap.size s2 [y, y] → Calls Try.prog 117 #[stV t s op x, s2] w (TO w z 1 0 0)) := Lib.hid fun w s2 h1 h2 => by rw [← hz]; exact went_any t s op x s2 [y, y] w h1 h2 hn (by simp)
  rw [hz]
  clear hz hy
  have HST : Hid (StB w t s op x (((w.alloc (.cells (stateA t s op x) 109)).alloc (.cells (taskA zT nilV) 66)).alloc (.cells (outA 0 0 0) 71))) := Lib.hid (StB.start hs)
  obtain ⟨w3, h3⟩ : ∃ w3, w3 = ((w.alloc (.cells (stateA t s op x) 109)).alloc (.cells (taskA zT nilV) 66)).alloc (.cells (outA 0 0 0) 71) := ⟨_, rfl⟩
  rw [← h3] at HST
  unfold stV stateA
  go_enter Try.func92, Try.ntmps92
  go_upto_region 1 with (fail)
  rw [show Code.wp Try.prog _ _ _ _ = Code.wp Try.prog _ _ _ w3 from by rw [h3]; rfl]
  clear h3 hs
  refine Reg.wp_facts_sl [4, 5, 6, 7, 8, 9, 10, 11, 12] rfl [9, 10] [[], [], [(1, 5)], [], [(3, 7)], [(2, 6), (4, 8)], [(0, 4), (5, 9)], [(6, 10)], [(6, 10)], [(7, 11)], [(8, 12)]] [] (Reg.Known (du1Val (stV t s op x) w.heap.size y) (XW w z 1 0 0 [y, y] 5 6 7) [5, 6, 7]) (SR w t s op x z 1 0 0) (by kernel_rfl) (by kernel_rfl) ?start ?steps ?finish
  case start => exact SR.start (HST.out.step (Below.refl _ _).drew)
  case steps =>
    refine Reg.Steps.zip ?_ ?_
    · refine Reg.step_go rfl ?_
      intro a wi ki hf hd hS hc K hK
      have f1 : a.tmps.getD 1 undef = .pointer (some ⟨w.heap.size, 0, none⟩) := hf.same 1 rfl
      clear hf hd
      exact wpState _ rfl _ _ _ _ _ f1 _ _ hS.st.bx (hK _ _ (Reg.Known.mk_val rfl rfl) (fun _ _ h => h) hS)
    refine Reg.Steps.zip ?_ ?_
    · refine Reg.step_go rfl ?_
      intro a wi ki hf hd hS hc K hK
      have f1 : a.tmps.getD 1 undef = .pointer (some ⟨w.heap.size, 0, none⟩) := hf.same 1 rfl
      clear hf hd
      exact wpState _ rfl _ _ _ _ _ f1 _ _ hS.st.bx (hK _ _ (Reg.Known.mk_val rfl rfl) (fun _ _ h => h) hS)
    refine Reg.Steps.zip ?_ ?_
    · refine Reg.step_go rfl ?_
      intro a wi ki hf hd hS hc K hK
      have e5 : a.tmps.getD 5 undef = (stV t s op x) := hd.1.plain rfl
      clear hf hd
      have HS : Hid (St0 w t s op x wi) := Lib.hid hS.st
      have HSS := Lib.hid hS; clear hS
      have hK0 := Lib.hid hK; clear hK hc
      go_simp
      refine (HT0.out wi HS.out.st).mono ?_
      rintro e wA ⟨rfl, hbA⟩
      exact hK0.out _ _ (Reg.Known.mk_val rfl rfl) (fun _ _ h => Reg.Known.keepX h (fun hx => hx.step hbA)) (HSS.out.step hbA)
    refine Reg.Steps.zip ?_ ?_
    · refine Reg.step_go rfl ?_
      intro a wi ki hf hd hS hc K hK
      have f1 : a.tmps.getD 1 undef = .pointer (some ⟨w.heap.size, 0, none⟩) := hf.same 1 rfl
      clear hf hd
      exact wpState _ rfl _ _ _ _ _ f1 _ _ hS.st.bx (hK _ _ (Reg.Known.mk_val rfl rfl) (fun _ _ h => h) hS)
    refine Reg.Steps.zip ?_ ?_
    · refine Reg.step_go rfl ?_
      intro a wi ki hf hd hS hc K hK
      have e7 : a.tmps.getD 7 undef = (stV t s op x) := hd.1.plain rfl
      clear hf hd
      have HS : Hid (St0 w t s op x wi) := Lib.hid hS.st
      have HSS := Lib.hid hS; clear hS
      have hK0 := Lib.hid hK; clear hK hc
      go_simp
      refine (HT0.out wi HS.out.st).mono ?_
      rintro e wA ⟨rfl, hbA⟩
      exact hK0.out _ _ (Reg.Known.mk_val rfl rfl) (fun _ _ h => Reg.Known.keepX h (fun hx => hx.step hbA)) (HSS.out.step hbA)
    refine Reg.Steps.zip ?_ ?_
    · refine Reg.step_go rfl ?_
      intro a wi ki hf hd hS hc K hK
      have e6 : a.tmps.getD 6 undef = .int .i32 y := hd.1.plain rfl
      have e8 : a.tmps.getD 8 undef = .int .i32 y := hd.2.1.plain rfl
      clear hf hd
      have k6 : a.tmps[6]?.getD undef = .int .i32 y := by rw [← e6]; simp
      have k8 : a.tmps[8]?.getD undef = .int .i32 y := by rw [← e8]; simp
      have HZ3 := Lib.hid hS.sz3
      have HS : Hid (St0 w t s op x wi) := Lib.hid hS.st
      have HSS := Lib.hid hS; clear hS
      have hK0 := Lib.hid hK; clear hK hc
      go_simp
      have hbA := below_alloc wi (.cells (i32s [y, y]).toArray 21)
      have hT := HZ3.out
      exact hK0.out _ _ (Reg.Known.mk_other rfl (XW.mk0 (by decide) (Own32.fresh wi [y, y] (by simp) HZ3.out))) (fun _ _ h => Reg.Known.keepX h (fun hx => hx.step hbA)) (HSS.out.step hbA)
    refine Reg.Steps.zip ?_ ?_
    · refine Reg.step_go rfl ?_
      intro a wi ki hf hd hS hc K hK
      have e4 : a.tmps.getD 4 undef = (stV t s op x) := hd.1.plain rfl
      have x9 := hd.2.1.other rfl
      clear hf hd
      have y9 := x9.1 rfl
      obtain ⟨A9, n9, k9, e9⟩ := y9.shape
      rw [e9] at y9
      have Y9 := Lib.hid y9; clear y9 x9
      have HZ3 := Lib.hid hS.sz3
      have HS : Hid (St0 w t s op x wi) := Lib.hid hS.st
      have HSS := Lib.hid hS; clear hS
      have hK0 := Lib.hid hK; clear hK hc
      go_simp
      refine (HW.out wi (.slice A9 n9 k9) HS.out.st Y9.out.v).mono ?_
      rintro e wA ⟨⟨s', rfl, ho⟩, hbA⟩
      exact hK0.out _ _ (Reg.Known.mk_other rfl (XW.mk1 (by decide) ⟨s', rfl, ho.less HZ3.out⟩)) (fun _ _ h => Reg.Known.keepX h (fun hx => hx.step hbA)) (HSS.out.step hbA)
    refine Reg.Steps.zip ?_ ?_
    · refine Reg.step_go rfl ?_
      intro a wi ki hf hd hS hc K hK
      have x10 := hd.1.other rfl
      clear hf hd
      obtain ⟨s', es, ho⟩ := x10.2.1 rfl
      have HO := Lib.hid ho; clear ho x10
      have HS : Hid (St0 w t s op x wi) := Lib.hid hS.st
      have HSS := Lib.hid hS; clear hS
      have hK0 := Lib.hid hK; clear hK hc
      go_simp
      skip
      skip
      exact hK0.out _ _ (Reg.Known.mk_other rfl (XW.mk2 (by decide) ⟨s', rfl, HO.out⟩)) (fun _ _ h => h) HSS.out
    refine Reg.Steps.zip ?_ ?_
    · refine Reg.step_go rfl ?_
      intro a wi ki hf hd hS hc K hK
      have x10 := hd.1.other rfl
      clear hf hd
      obtain ⟨s', es, ho⟩ := x10.2.1 rfl
      have HO := Lib.hid ho; clear ho x10
      have HS : Hid (St0 w t s op x wi) := Lib.hid hS.st
      have HSS := Lib.hid hS; clear hS
      have hK0 := Lib.hid hK; clear hK hc
      go_simp
      skip
      skip
      exact hK0.out _ _ (Reg.Known.mk_val rfl rfl) (fun _ _ h => h) HSS.out
    refine Reg.Steps.zip ?_ ?_
    · refine Reg.step_go rfl ?_
      intro a wi ki hf hd hS hc K hK
      have x11 := hd.1.other rfl
      have f2 : a.tmps.getD 2 undef = .pointer (some ⟨(w.heap.size + 1), 0, none⟩) := hf.same 2 rfl
      clear hf hd
      obtain rfl := hc 0 rfl
      obtain ⟨s', es, ho⟩ := x11.2.2 rfl
      exact wpPutTask _ _ rfl _ _ _ f2 es _ _ _ hS.2.1 ho.one (hK _ _ (Reg.Known.mk_val rfl rfl) (fun i u h => Reg.Known.keepX h (fun hx => hx.row (by omega))) (hS.one ho))
    refine Reg.Steps.zip ?_ ?_
    · refine Reg.step_go rfl ?_
      intro a wi ki hf hd hS hc K hK
      have e12 : a.tmps.getD 12 undef = (outV 1 0 0) := hd.1.plain rfl
      have f3 : a.tmps.getD 3 undef = .pointer (some ⟨(w.heap.size + 2), 0, none⟩) := hf.same 3 rfl
      clear hf hd
      obtain rfl := hc 1 rfl
      exact wpPutOut _ _ rfl _ _ _ _ f3 e12 _ _ _ _ hS.2.2 (hK _ _ (Reg.Known.mk_val rfl rfl) (fun i u h => Reg.Known.keepX h (fun hx => hx.row (by omega))) hS.two)
    exact Reg.Steps.nil
  case finish =>
    intro a w8 hf hd hS
    have f2 : a.tmps.getD 2 undef = .pointer (some ⟨(w.heap.size + 1), 0, none⟩) := hf.same 2 rfl
    have f3 : a.tmps.getD 3 undef = .pointer (some ⟨(w.heap.size + 2), 0, none⟩) := hf.same 3 rfl
    have hd0 : a.defers = [] := hf.defers
    go_wp2_with fail
    exact hS.ret rfl hd0 f2 f3

def lo1Val (T : Value) (g : Nat) (y : Int) (i : Nat) : Nat → Value
  | 0 => T
  | 1 => .pointer (some ⟨g, 12, none⟩)
  | 2 => .pointer (some ⟨g, 13, none⟩)
  | 3 => .int .i32 i
  | 4 => .pointer (some ⟨g, 0, none⟩)
  | 5 => .pointer (some ⟨g, 4, none⟩)
  | 6 => .pointer (some ⟨g, 4 + i, none⟩)
  | 7 => .int .i32 y
  | 11 => (outV 1 0 0)
  | 12 => undef
  | 13 => undef
  | _ => undef


set_option maxRecDepth 100000 in
set_option maxHeartbeats 8000000 in
theorem loadM (t : TK) (s : Value) (op x : Int) (i : Nat) (hi : i < 4) (hx : x = i) (w : World) (hs : I32V w w.heap.size s t.st) (hn : t.st.length ≤ 100000) :
    Calls Try.prog 97 #[stV t s op x] w (TO w (wentZ t op [varZ t i]) 1 0 0) := by
  obtain ⟨y, hy⟩ : ∃ y, varZ t i = y := ⟨_, rfl⟩
  have HV : Hid ((stateA t s op x)[4 + i]? = some (.int .i32 y)) := Lib.hid (by rw [← hy]; exact varZ_at t s op x i hi)
  have HI4 := Lib.hid hi
  rw [hy]
  obtain ⟨z, hz⟩ : ∃ z, wentZ t op [y] = z := ⟨_, rfl⟩
  have HW : Hid (∀ w s2, I32V w w.heap.size s t.st → I32V w w.heap.size s2 [y] → Calls Try.prog 117 #[stV t s op x, s2] w (TO w z 1 0 0)) := Lib.hid fun w s2 h1 h2 => by rw [← hz]; exact went_any t s op x s2 [y] w h1 h2 hn (by simp)
  rw [hz]
  have HX := Lib.hid hx
  clear hz hy hi hx
  have HST : Hid (StB w t s op x (((w.alloc (.cells (stateA t s op x) 109)).alloc (.cells (taskA zT nilV) 66)).alloc (.cells (outA 0 0 0) 71))) := Lib.hid (StB.start hs)
  obtain ⟨w3, h3⟩ : ∃ w3, w3 = ((w.alloc (.cells (stateA t s op x) 109)).alloc (.cells (taskA zT nilV) 66)).alloc (.cells (outA 0 0 0) 71) := ⟨_, rfl⟩
  rw [← h3] at HST
  unfold stV stateA
  go_enter Try.func97, Try.ntmps97
  go_upto_region 1 with (fail)
  rw [show Code.wp Try.prog _ _ _ _ = Code.wp Try.prog _ _ _ w3 from by rw [h3]; rfl]
  clear h3 hs
  refine Reg.wp_facts_sl [4, 5, 6, 7, 8, 9, 10, 11, 12, 13, 14, 15] rfl [12, 13] [[], [], [(1, 5)], [(2, 6)], [], [(4, 8)], [(5, 9), (3, 7)], [(6, 10)], [(7, 11)], [(0, 4), (8, 12)], [(9, 13)], [(9, 13)], [(10, 14)], [(11, 15)]] [] (Reg.Known (lo1Val (stV t s op x) w.heap.size y i) (XW w z 1 0 0 [y] 8 9 10) [8, 9, 10]) (SR w t s op x z 1 0 0) (by kernel_rfl) (by kernel_rfl) ?start ?steps ?finish
  case start => exact SR.start (HST.out.step (Below.refl _ _).drew)
  case steps =>
    refine Reg.Steps.zip ?_ ?_
    · refine Reg.step_go rfl ?_
      intro a wi ki hf hd hS hc K hK
      have f1 : a.tmps.getD 1 undef = .pointer (some ⟨w.heap.size, 0, none⟩) := hf.same 1 rfl
      clear hf hd
      exact wpState _ rfl _ _ _ _ _ f1 _ _ hS.st.bx (hK _ _ (Reg.Known.mk_val rfl rfl) (fun _ _ h => h) hS)
    refine Reg.Steps.zip ?_ ?_
    · refine Reg.step_go rfl ?_
      intro a wi ki hf hd hS hc K hK
      have f1 : a.tmps.getD 1 undef = .pointer (some ⟨w.heap.size, 0, none⟩) := hf.same 1 rfl
      clear hf hd hc
      have hK0 := Lib.hid hK; clear hK
      have hS0 := Lib.hid hS; clear hS
      go_simp
      exact hK0.out _ _ (Reg.Known.mk_val rfl rfl) (fun _ _ h => h) hS0.out
    refine Reg.Steps.zip ?_ ?_
    · refine Reg.step_go rfl ?_
      intro a wi ki hf hd hS hc K hK
      have e5 : a.tmps.getD 5 undef = .pointer (some ⟨w.heap.size, 12, none⟩) := hd.1.plain rfl
      clear hf hd hc
      have hK0 := Lib.hid hK; clear hK
      have hS0 := Lib.hid hS; clear hS
      go_simp
      exact hK0.out _ _ (Reg.Known.mk_val rfl rfl) (fun _ _ h => h) hS0.out
    refine Reg.Steps.zip ?_ ?_
    · refine Reg.step_go rfl ?_
      intro a wi ki hf hd hS hc K hK
      have e6 : a.tmps.getD 6 undef = .pointer (some ⟨w.heap.size, 13, none⟩) := hd.1.plain rfl
      clear hf hd hc
      have cc := hS.st.c13
      rw [HX.out] at cc
      have hK0 := Lib.hid hK; clear hK
      have hS0 := Lib.hid hS; clear hS
      go_simp
      exact hK0.out _ _ (Reg.Known.mk_val rfl rfl) (fun _ _ h => h) hS0.out
    refine Reg.Steps.zip ?_ ?_
    · refine Reg.step_go rfl ?_
      intro a wi ki hf hd hS hc K hK
      have f1 : a.tmps.getD 1 undef = .pointer (some ⟨w.heap.size, 0, none⟩) := hf.same 1 rfl
      clear hf hd hc
      have hK0 := Lib.hid hK; clear hK
      have hS0 := Lib.hid hS; clear hS
      go_simp
      exact hK0.out _ _ (Reg.Known.mk_val rfl rfl) (fun _ _ h => h) hS0.out
    refine Reg.Steps.zip ?_ ?_
    · refine Reg.step_go rfl ?_
      intro a wi ki hf hd hS hc K hK
      have e8 : a.tmps.getD 8 undef = .pointer (some ⟨w.heap.size, 0, none⟩) := hd.1.plain rfl
      clear hf hd hc
      have hK0 := Lib.hid hK; clear hK
      have hS0 := Lib.hid hS; clear hS
      go_simp
      exact hK0.out _ _ (Reg.Known.mk_val rfl rfl) (fun _ _ h => h) hS0.out
    refine Reg.Steps.zip ?_ ?_
    · refine Reg.step_go rfl ?_
      intro a wi ki hf hd hS hc K hK
      have e9 : a.tmps.getD 9 undef = .pointer (some ⟨w.heap.size, 4, none⟩) := hd.1.plain rfl
      have e7 : a.tmps.getD 7 undef = .int .i32 i := hd.2.1.plain rfl
      clear hf hd hc
      have hi4 : (i : Int) < 4 := by have := HI4.out; omega
      have hK0 := Lib.hid hK; clear hK
      have hS0 := Lib.hid hS; clear hS
      go_simp
      exact hK0.out _ _ (Reg.Known.mk_val rfl rfl) (fun _ _ h => h) hS0.out
    refine Reg.Steps.zip ?_ ?_
    · refine Reg.step_go rfl ?_
      intro a wi ki hf hd hS hc K hK
      have e10 : a.tmps.getD 10 undef = .pointer (some ⟨w.heap.size, 4 + i, none⟩) := hd.1.plain rfl
      clear hf hd hc
      have cc := (hS.st.cell (4 + i)).trans HV.out
      have hK0 := Lib.hid hK; clear hK
      have hS0 := Lib.hid hS; clear hS
      go_simp
      exact hK0.out _ _ (Reg.Known.mk_val rfl rfl) (fun _ _ h => h) hS0.out
    refine Reg.Steps.zip ?_ ?_
    · refine Reg.step_go rfl ?_
      intro a wi ki hf hd hS hc K hK
      have e11 : a.tmps.getD 11 undef = .int .i32 y := hd.1.plain rfl
      clear hf hd
      have k11 : a.tmps[11]?.getD undef = .int .i32 y := by rw [← e11]; simp
      have HZ3 := Lib.hid hS.sz3
      have HS : Hid (St0 w t s op x wi) := Lib.hid hS.st
      have HSS := Lib.hid hS; clear hS
      have hK0 := Lib.hid hK; clear hK hc
      go_simp
      have hbA := below_alloc wi (.cells (i32s [y]).toArray 21)
      have hT := HZ3.out
      exact hK0.out _ _ (Reg.Known.mk_other rfl (XW.mk0 (by decide) (Own32.fresh wi [y] (by simp) HZ3.out))) (fun _ _ h => Reg.Known.keepX h (fun hx => hx.step hbA)) (HSS.out.step hbA)
    refine Reg.Steps.zip ?_ ?_
    · refine Reg.step_go rfl ?_
      intro a wi ki hf hd hS hc K hK
      have e4 : a.tmps.getD 4 undef = (stV t s op x) := hd.1.plain rfl
      have x12 := hd.2.1.other rfl
      clear hf hd
      have y9 := x12.1 rfl
      obtain ⟨A9, n9, k9, e9⟩ := y9.shape
      rw [e9] at y9
      have Y9 := Lib.hid y9; clear y9 x12
      have HZ3 := Lib.hid hS.sz3
      have HS : Hid (St0 w t s op x wi) := Lib.hid hS.st
      have HSS := Lib.hid hS; clear hS
      have hK0 := Lib.hid hK; clear hK hc
      go_simp
      refine (HW.out wi (.slice A9 n9 k9) HS.out.st Y9.out.v).mono ?_
      rintro e wA ⟨⟨s', rfl, ho⟩, hbA⟩
      exact hK0.out _ _ (Reg.Known.mk_other rfl (XW.mk1 (by decide) ⟨s', rfl, ho.less HZ3.out⟩)) (fun _ _ h => Reg.Known.keepX h (fun hx => hx.step hbA)) (HSS.out.step hbA)
    refine Reg.Steps.zip ?_ ?_
    · refine Reg.step_go rfl ?_
      intro a wi ki hf hd hS hc K hK
      have x13 := hd.1.other rfl
      clear hf hd
      obtain ⟨s', es, ho⟩ := x13.2.1 rfl
      have HO := Lib.hid ho; clear ho x13
      have HS : Hid (St0 w t s op x wi) := Lib.hid hS.st
      have HSS := Lib.hid hS; clear hS
      have hK0 := Lib.hid hK; clear hK hc
      go_simp
      skip
      skip
      exact hK0.out _ _ (Reg.Known.mk_other rfl (XW.mk2 (by decide) ⟨s', rfl, HO.out⟩)) (fun _ _ h => h) HSS.out
    refine Reg.Steps.zip ?_ ?_
    · refine Reg.step_go rfl ?_
      intro a wi ki hf hd hS hc K hK
      have x13 := hd.1.other rfl
      clear hf hd
      obtain ⟨s', es, ho⟩ := x13.2.1 rfl
      have HO := Lib.hid ho; clear ho x13
      have HS : Hid (St0 w t s op x wi) := Lib.hid hS.st
      have HSS := Lib.hid hS; clear hS
      have hK0 := Lib.hid hK; clear hK hc
      go_simp
      skip
      skip
      exact hK0.out _ _ (Reg.Known.mk_val rfl rfl) (fun _ _ h => h) HSS.out
    refine Reg.Steps.zip ?_ ?_
    · refine Reg.step_go rfl ?_
      intro a wi ki hf hd hS hc K hK
      have x14 := hd.1.other rfl
      have f2 : a.tmps.getD 2 undef = .pointer (some ⟨(w.heap.size + 1), 0, none⟩) := hf.same 2 rfl
      clear hf hd
      obtain rfl := hc 0 rfl
      obtain ⟨s', es, ho⟩ := x14.2.2 rfl
      exact wpPutTask _ _ rfl _ _ _ f2 es _ _ _ hS.2.1 ho.one (hK _ _ (Reg.Known.mk_val rfl rfl) (fun i u h => Reg.Known.keepX h (fun hx => hx.row (by omega))) (hS.one ho))
    refine Reg.Steps.zip ?_ ?_
    · refine Reg.step_go rfl ?_
      intro a wi ki hf hd hS hc K hK
      have e15 : a.tmps.getD 15 undef = (outV 1 0 0) := hd.1.plain rfl
      have f3 : a.tmps.getD 3 undef = .pointer (some ⟨(w.heap.size + 2), 0, none⟩) := hf.same 3 rfl
      clear hf hd
      obtain rfl := hc 1 rfl
      exact wpPutOut _ _ rfl _ _ _ _ f3 e15 _ _ _ _ hS.2.2 (hK _ _ (Reg.Known.mk_val rfl rfl) (fun i u h => Reg.Known.keepX h (fun hx => hx.row (by omega))) hS.two)
    exact Reg.Steps.nil
  case finish =>
    intro a w8 hf hd hS
    have f2 : a.tmps.getD 2 undef = .pointer (some ⟨(w.heap.size + 1), 0, none⟩) := hf.same 2 rfl
    have f3 : a.tmps.getD 3 undef = .pointer (some ⟨(w.heap.size + 2), 0, none⟩) := hf.same 3 rfl
    have hd0 : a.defers = [] := hf.defers
    go_wp2_with fail
    exact hS.ret rfl hd0 f2 f3

def re1Val (T : Value) (_g : Nat) (y : Int) : Nat → Value
  | 0 => T
  | 1 => T
  | 2 => .int .i32 y
  | 3 => (outV 2 y 0)
  | 6 => (outV 2 y 0)
  | 7 => undef
  | 8 => undef
  | _ => undef


set_option maxRecDepth 100000 in
set_option maxHeartbeats 8000000 in
theorem retM (t : TK) (s : Value) (op x : Int) (h0 : 0 < t.st.length) (w : World) (hs : I32V w w.heap.size s t.st) (hn : t.st.length ≤ 100000) :
    Calls Try.prog 100 #[stV t s op x] w (TO w t 2 (topZ t.st 0) 0) := by
  obtain ⟨y, hy⟩ : ∃ y, topZ t.st 0 = y := ⟨_, rfl⟩
  have HT0 : Hid (∀ w, I32V w w.heap.size s t.st → Calls Try.prog 118 #[stV t s op x, .int .i64 0] w fun e w' => e = .returned (.int .i32 y) ∧ Below w.heap.size w w') := Lib.hid fun w h1 => by rw [← hy]; exact fromTop_any t s op x 0 w h1 hn h0
  rw [hy]
  clear hy
  have HU : Hid (∀ w, I32V w w.heap.size s t.st → Calls Try.prog 68 #[stV t s op x, outV 2 y 0] w (TO w t 2 y 0)) := Lib.hid fun w h1 => unchanged_any t s op x 2 y 0 w h1 hn
  have HST : Hid (StB w t s op x (((w.alloc (.cells (stateA t s op x) 109)).alloc (.cells (taskA zT nilV) 66)).alloc (.cells (outA 0 0 0) 71))) := Lib.hid (StB.start hs)
  obtain ⟨w3, h3⟩ : ∃ w3, w3 = ((w.alloc (.cells (stateA t s op x) 109)).alloc (.cells (taskA zT nilV) 66)).alloc (.cells (outA 0 0 0) 71) := ⟨_, rfl⟩
  rw [← h3] at HST
  unfold stV stateA
  go_enter Try.func100, Try.ntmps100
  go_upto_region 1 with (fail)
  rw [show Code.wp Try.prog _ _ _ _ = Code.wp Try.prog _ _ _ w3 from by rw [h3]; rfl]
  clear h3 hs
  refine Reg.wp_facts_sl [4, 5, 6, 7, 8, 9, 10] rfl [7, 8] [[], [], [(1, 5)], [(2, 6)], [(0, 4), (3, 7)], [(4, 8)], [(4, 8)], [(5, 9)], [(6, 10)]] [] (Reg.Known (re1Val (stV t s op x) w.heap.size y) (XW w t 2 y 0 [] 99 4 5) [4, 5]) (SR w t s op x t 2 y 0) (by kernel_rfl) (by kernel_rfl) ?start ?steps ?finish
  case start => exact SR.start (HST.out.step (Below.refl _ _).drew)
  case steps =>
    refine Reg.Steps.zip ?_ ?_
    · refine Reg.step_go rfl ?_
      intro a wi ki hf hd hS hc K hK
      have f1 : a.tmps.getD 1 undef = .pointer (some ⟨w.heap.size, 0, none⟩) := hf.same 1 rfl
      clear hf hd
      exact wpState _ rfl _ _ _ _ _ f1 _ _ hS.st.bx (hK _ _ (Reg.Known.mk_val rfl rfl) (fun _ _ h => h) hS)
    refine Reg.Steps.zip ?_ ?_
    · refine Reg.step_go rfl ?_
      intro a wi ki hf hd hS hc K hK
      have f1 : a.tmps.getD 1 undef = .pointer (some ⟨w.heap.size, 0, none⟩) := hf.same 1 rfl
      clear hf hd
      exact wpState _ rfl _ _ _ _ _ f1 _ _ hS.st.bx (hK _ _ (Reg.Known.mk_val rfl rfl) (fun _ _ h => h) hS)
    refine Reg.Steps.zip ?_ ?_
    · refine Reg.step_go rfl ?_
      intro a wi ki hf hd hS hc K hK
      have e5 : a.tmps.getD 5 undef = (stV t s op x) := hd.1.plain rfl
      clear hf hd
      have HS : Hid (St0 w t s op x wi) := Lib.hid hS.st
      have HSS := Lib.hid hS; clear hS
      have hK0 := Lib.hid hK; clear hK hc
      go_simp
      refine (HT0.out wi HS.out.st).mono ?_
      rintro e wA ⟨rfl, hbA⟩
      exact hK0.out _ _ (Reg.Known.mk_val rfl rfl) (fun _ _ h => Reg.Known.keepX h (fun hx => hx.step hbA)) (HSS.out.step hbA)
    refine Reg.Steps.zip ?_ ?_
    · refine Reg.step_go rfl ?_
      intro a wi ki hf hd hS hc K hK
      have e6 : a.tmps.getD 6 undef = .int .i32 y := hd.1.plain rfl
      clear hf hd hc
      have k6 : a.tmps[6]?.getD undef = .int .i32 y := by rw [← e6]; simp
      have hK0 := Lib.hid hK; clear hK
      have hS0 := Lib.hid hS; clear hS
      go_simp
      exact hK0.out _ _ (Reg.Known.mk_val rfl rfl) (fun _ _ h => h) hS0.out
    refine Reg.Steps.zip ?_ ?_
    · refine Reg.step_go rfl ?_
      intro a wi ki hf hd hS hc K hK
      have e4 : a.tmps.getD 4 undef = (stV t s op x) := hd.1.plain rfl
      have e7 : a.tmps.getD 7 undef = (outV 2 y 0) := hd.2.1.plain rfl
      clear hf hd
      have HZ3 := Lib.hid hS.sz3
      have HS : Hid (St0 w t s op x wi) := Lib.hid hS.st
      have HSS := Lib.hid hS; clear hS
      have hK0 := Lib.hid hK; clear hK hc
      go_simp
      refine (HU.out wi HS.out.st).mono ?_
      rintro e wA ⟨⟨s', rfl, ho⟩, hbA⟩
      exact hK0.out _ _ (Reg.Known.mk_other rfl (XW.mk1 (by decide) ⟨s', rfl, ho.less HZ3.out⟩)) (fun _ _ h => Reg.Known.keepX h (fun hx => hx.step hbA)) (HSS.out.step hbA)
    refine Reg.Steps.zip ?_ ?_
    · refine Reg.step_go rfl ?_
      intro a wi ki hf hd hS hc K hK
      have x8 := hd.1.other rfl
      clear hf hd
      obtain ⟨s', es, ho⟩ := x8.2.1 rfl
      have HO := Lib.hid ho; clear ho x8
      have HS : Hid (St0 w t s op x wi) := Lib.hid hS.st
      have HSS := Lib.hid hS; clear hS
      have hK0 := Lib.hid hK; clear hK hc
      go_simp
      skip
      skip
      exact hK0.out _ _ (Reg.Known.mk_other rfl (XW.mk2 (by decide) ⟨s', rfl, HO.out⟩)) (fun _ _ h => h) HSS.out
    refine Reg.Steps.zip ?_ ?_
    · refine Reg.step_go rfl ?_
      intro a wi ki hf hd hS hc K hK
      have x8 := hd.1.other rfl
      clear hf hd
      obtain ⟨s', es, ho⟩ := x8.2.1 rfl
      have HO := Lib.hid ho; clear ho x8
      have HS : Hid (St0 w t s op x wi) := Lib.hid hS.st
      have HSS := Lib.hid hS; clear hS
      have hK0 := Lib.hid hK; clear hK hc
      go_simp
      skip
      skip
      exact hK0.out _ _ (Reg.Known.mk_val rfl rfl) (fun _ _ h => h) HSS.out
    refine Reg.Steps.zip ?_ ?_
    · refine Reg.step_go rfl ?_
      intro a wi ki hf hd hS hc K hK
      have x9 := hd.1.other rfl
      have f2 : a.tmps.getD 2 undef = .pointer (some ⟨(w.heap.size + 1), 0, none⟩) := hf.same 2 rfl
      clear hf hd
      obtain rfl := hc 0 rfl
      obtain ⟨s', es, ho⟩ := x9.2.2 rfl
      exact wpPutTask _ _ rfl _ _ _ f2 es _ _ _ hS.2.1 ho.one (hK _ _ (Reg.Known.mk_val rfl rfl) (fun i u h => Reg.Known.keepX h (fun hx => hx.row (by omega))) (hS.one ho))
    refine Reg.Steps.zip ?_ ?_
    · refine Reg.step_go rfl ?_
      intro a wi ki hf hd hS hc K hK
      have e10 : a.tmps.getD 10 undef = (outV 2 y 0) := hd.1.plain rfl
      have f3 : a.tmps.getD 3 undef = .pointer (some ⟨(w.heap.size + 2), 0, none⟩) := hf.same 3 rfl
      clear hf hd
      obtain rfl := hc 1 rfl
      exact wpPutOut _ _ rfl _ _ _ _ f3 e10 _ _ _ _ hS.2.2 (hK _ _ (Reg.Known.mk_val rfl rfl) (fun i u h => Reg.Known.keepX h (fun hx => hx.row (by omega))) hS.two)
    exact Reg.Steps.nil
  case finish =>
    intro a w8 hf hd hS
    have f2 : a.tmps.getD 2 undef = .pointer (some ⟨(w.heap.size + 1), 0, none⟩) := hf.same 2 rfl
    have f3 : a.tmps.getD 3 undef = .pointer (some ⟨(w.heap.size + 2), 0, none⟩) := hf.same 3 rfl
    have hd0 : a.defers = [] := hf.defers
    go_wp2_with fail
    exact hS.ret rfl hd0 f2 f3

/-- The functions of the instructions that compute. -/
def opsA : Array Value := #[.nilFunc, .nilFunc, .nilFunc, .nilFunc, .func (.func 31) #[] #[], .func (.func 32) #[] #[], .func (.func 33) #[] #[], .nilFunc, .func (.func 34) #[] #[], .func (.func 36) #[] #[]]
def opsV : Value := .agg opsA
theorem opsA_ones : opsA.all (·.oneCell') = true := by kernel_rfl
theorem info_opsA : (Try.prog.info? 134).map (·.size) = some 10 := by kernel_rfl
set_option maxRecDepth 100000 in
set_option maxHeartbeats 8000000 in
theorem operations_any (w : World) : Calls Try.prog 119 #[] w fun e w' => e = .returned opsV ∧ Below w.heap.size w w' := by
  go_enter Try.func119, Try.ntmps119
  go_wp2_with (first | (refine wpList_store_row rfl _ _ _ rfl w.heap.size opsA rfl rfl _ _ (heap_alloc_new w _) info_opsA rfl opsA_ones ?_) | fail)
  exact bodyPost_ret (results_cell_row rfl _ _ w.heap.size _ opsA _ _ rfl (row_at (heap_alloc_new w _) _) Try.underlying134 rfl info_opsA) rfl ⟨rfl, (below_alloc w _).trans (row_below (Nat.le_refl _))⟩

def co1Val (T : Value) (g : Nat) (y1 y0 y op : Int) (F : FuncId) : Nat → Value
  | 0 => T
  | 1 => opsV
  | 2 => .pointer (some ⟨g, 12, none⟩)
  | 3 => .pointer (some ⟨g, 12, none⟩)
  | 4 => .int .i64 op
  | 5 => .func (.func F) #[] #[]
  | 6 => T
  | 7 => .int .i32 y1
  | 8 => T
  | 9 => .int .i32 y0
  | 10 => .int .i32 y
  | 14 => (outV 1 0 0)
  | 15 => undef
  | 16 => undef
  | _ => undef


set_option maxRecDepth 100000 in
set_option maxHeartbeats 8000000 in
theorem computeM (t : TK) (s : Value) (op x : Int) (F : FuncId) (y1 y0 y : Int) (h0 : 1 < t.st.length) (hy0 : topZ t.st 0 = y0) (hy1 : topZ t.st 1 = y1)
    (hix : ∀ w, Sem.run Try.prog (Instr.index 134 opsV (.int .i64 op)) w = .ok (.func (.func F) #[] #[]) w)
    (hF : ∀ w, Calls Try.prog F #[.int .i32 y1, .int .i32 y0] w fun e w' => e = .returned (.int .i32 y) ∧ w' = w) (hE : ∀ xs w, (callFunc F xs).run Try.prog w = .ok (.enter F xs) w) (w : World) (hs : I32V w w.heap.size s t.st) (hn : t.st.length ≤ 100000) :
    Calls Try.prog 93 #[stV t s op x] w (TO w (wentZ t op [y]) 1 0 0) := by
  have HT0 : Hid (∀ w, I32V w w.heap.size s t.st → Calls Try.prog 118 #[stV t s op x, .int .i64 0] w fun e w' => e = .returned (.int .i32 y0) ∧ Below w.heap.size w w') := Lib.hid fun w h1 => by rw [← hy0]; exact fromTop_any t s op x 0 w h1 hn (by omega)
  have HT1 : Hid (∀ w, I32V w w.heap.size s t.st → Calls Try.prog 118 #[stV t s op x, .int .i64 1] w fun e w' => e = .returned (.int .i32 y1) ∧ Below w.heap.size w w') := Lib.hid fun w h1 => by rw [← hy1]; exact fromTop_any t s op x 1 w h1 hn h0
  have HIX := Lib.hid hix; have HF := Lib.hid hF; have HE := Lib.hid hE
  obtain ⟨z, hz⟩ : ∃ z, wentZ t op [y] = z := ⟨_, rfl⟩
  have HW : Hid (∀ w s2, I32V w w.heap.size s t.st → I32V w w.heap.size s2 [y] → Calls Try.prog 117 #[stV t s op x, s2] w (TO w z 1 0 0)) := Lib.hid fun w s2 h1 h2 => by rw [← hz]; exact went_any t s op x s2 [y] w h1 h2 hn (by simp)
  rw [hz]
  clear hz hy0 hy1 hix hF hE
  have HST : Hid (StB w t s op x (((w.alloc (.cells (stateA t s op x) 109)).alloc (.cells (taskA zT nilV) 66)).alloc (.cells (outA 0 0 0) 71))) := Lib.hid (StB.start hs)
  obtain ⟨w3, h3⟩ : ∃ w3, w3 = ((w.alloc (.cells (stateA t s op x) 109)).alloc (.cells (taskA zT nilV) 66)).alloc (.cells (outA 0 0 0) 71) := ⟨_, rfl⟩
  rw [← h3] at HST
  unfold stV stateA
  go_enter Try.func93, Try.ntmps93
  go_upto_region 1 with (fail)
  rw [show Code.wp Try.prog _ _ _ _ = Code.wp Try.prog _ _ _ w3 from by rw [h3]; rfl]
  clear h3 hs
  refine Reg.wp_facts_sl [4, 5, 6, 7, 8, 9, 10, 11, 12, 13, 14, 15, 16, 17, 18] rfl [15, 16] [[], [], [], [(2, 6)], [(3, 7)], [(1, 5), (4, 8)], [], [(6, 10)], [], [(8, 12)], [(5, 9), (7, 11), (9, 13)], [(10, 14)], [(0, 4), (11, 15)], [(12, 16)], [(12, 16)], [(13, 17)], [(14, 18)]] [] (Reg.Known (co1Val (stV t s op x) w.heap.size y1 y0 y op F) (XW w z 1 0 0 [y] 11 12 13) [11, 12, 13]) (SR w t s op x z 1 0 0) (by kernel_rfl) (by kernel_rfl) ?start ?steps ?finish
  case start => exact SR.start (HST.out.step (Below.refl _ _).drew)
  case steps =>
    refine Reg.Steps.zip ?_ ?_
    · refine Reg.step_go rfl ?_
      intro a wi ki hf hd hS hc K hK
      have f1 : a.tmps.getD 1 undef = .pointer (some ⟨w.heap.size, 0, none⟩) := hf.same 1 rfl
      clear hf hd
      exact wpState _ rfl _ _ _ _ _ f1 _ _ hS.st.bx (hK _ _ (Reg.Known.mk_val rfl rfl) (fun _ _ h => h) hS)
    refine Reg.Steps.zip ?_ ?_
    · refine Reg.step_go rfl ?_
      intro a wi ki hf hd hS hc K hK
      clear hf hd
      have HS : Hid (St0 w t s op x wi) := Lib.hid hS.st
      have HSS := Lib.hid hS; clear hS
      have hK0 := Lib.hid hK; clear hK hc
      go_simp
      refine (operations_any wi).mono ?_
      rintro e wA ⟨rfl, hbA⟩
      exact hK0.out _ _ (Reg.Known.mk_val rfl rfl) (fun _ _ h => Reg.Known.keepX h (fun hx => hx.step hbA)) (HSS.out.step hbA)
    refine Reg.Steps.zip ?_ ?_
    · refine Reg.step_go rfl ?_
      intro a wi ki hf hd hS hc K hK
      have f1 : a.tmps.getD 1 undef = .pointer (some ⟨w.heap.size, 0, none⟩) := hf.same 1 rfl
      clear hf hd hc
      have hK0 := Lib.hid hK; clear hK
      have hS0 := Lib.hid hS; clear hS
      go_simp
      exact hK0.out _ _ (Reg.Known.mk_val rfl rfl) (fun _ _ h => h) hS0.out
    refine Reg.Steps.zip ?_ ?_
    · refine Reg.step_go rfl ?_
      intro a wi ki hf hd hS hc K hK
      have e6 : a.tmps.getD 6 undef = .pointer (some ⟨w.heap.size, 12, none⟩) := hd.1.plain rfl
      clear hf hd hc
      have hK0 := Lib.hid hK; clear hK
      have hS0 := Lib.hid hS; clear hS
      go_simp
      exact hK0.out _ _ (Reg.Known.mk_val rfl rfl) (fun _ _ h => h) hS0.out
    refine Reg.Steps.zip ?_ ?_
    · refine Reg.step_go rfl ?_
      intro a wi ki hf hd hS hc K hK
      have e7 : a.tmps.getD 7 undef = .pointer (some ⟨w.heap.size, 12, none⟩) := hd.1.plain rfl
      clear hf hd hc
      have cc := hS.st.c12
      have hK0 := Lib.hid hK; clear hK
      have hS0 := Lib.hid hS; clear hS
      go_simp
      exact hK0.out _ _ (Reg.Known.mk_val rfl rfl) (fun _ _ h => h) hS0.out
    refine Reg.Steps.zip ?_ ?_
    · refine Reg.step_go rfl ?_
      intro a wi ki hf hd hS hc K hK
      have e5 : a.tmps.getD 5 undef = opsV := hd.1.plain rfl
      have e8 : a.tmps.getD 8 undef = .int .i64 op := hd.2.1.plain rfl
      clear hf hd hc
      have cc := HIX.out wi
      have hK0 := Lib.hid hK; clear hK
      have hS0 := Lib.hid hS; clear hS
      go_simp
      exact hK0.out _ _ (Reg.Known.mk_val rfl rfl) (fun _ _ h => h) hS0.out
    refine Reg.Steps.zip ?_ ?_
    · refine Reg.step_go rfl ?_
      intro a wi ki hf hd hS hc K hK
      have f1 : a.tmps.getD 1 undef = .pointer (some ⟨w.heap.size, 0, none⟩) := hf.same 1 rfl
      clear hf hd
      exact wpState _ rfl _ _ _ _ _ f1 _ _ hS.st.bx (hK _ _ (Reg.Known.mk_val rfl rfl) (fun _ _ h => h) hS)
    refine Reg.Steps.zip ?_ ?_
    · refine Reg.step_go rfl ?_
      intro a wi ki hf hd hS hc K hK
      have e10 : a.tmps.getD 10 undef = (stV t s op x) := hd.1.plain rfl
      clear hf hd
      have HS : Hid (St0 w t s op x wi) := Lib.hid hS.st
      have HSS := Lib.hid hS; clear hS
      have hK0 := Lib.hid hK; clear hK hc
      go_simp
      refine (HT1.out wi HS.out.st).mono ?_
      rintro e wA ⟨rfl, hbA⟩
      exact hK0.out _ _ (Reg.Known.mk_val rfl rfl) (fun _ _ h => Reg.Known.keepX h (fun hx => hx.step hbA)) (HSS.out.step hbA)
    refine Reg.Steps.zip ?_ ?_
    · refine Reg.step_go rfl ?_
      intro a wi ki hf hd hS hc K hK
      have f1 : a.tmps.getD 1 undef = .pointer (some ⟨w.heap.size, 0, none⟩) := hf.same 1 rfl
      clear hf hd
      exact wpState _ rfl _ _ _ _ _ f1 _ _ hS.st.bx (hK _ _ (Reg.Known.mk_val rfl rfl) (fun _ _ h => h) hS)
    refine Reg.Steps.zip ?_ ?_
    · refine Reg.step_go rfl ?_
      intro a wi ki hf hd hS hc K hK
      have e12 : a.tmps.getD 12 undef = (stV t s op x) := hd.1.plain rfl
      clear hf hd
      have HS : Hid (St0 w t s op x wi) := Lib.hid hS.st
      have HSS := Lib.hid hS; clear hS
      have hK0 := Lib.hid hK; clear hK hc
      go_simp
      refine (HT0.out wi HS.out.st).mono ?_
      rintro e wA ⟨rfl, hbA⟩
      exact hK0.out _ _ (Reg.Known.mk_val rfl rfl) (fun _ _ h => Reg.Known.keepX h (fun hx => hx.step hbA)) (HSS.out.step hbA)
    refine Reg.Steps.zip ?_ ?_
    · refine Reg.step_go rfl ?_
      intro a wi ki hf hd hS hc K hK
      have e9 : a.tmps.getD 9 undef = .func (.func F) #[] #[] := hd.1.plain rfl
      have e11 : a.tmps.getD 11 undef = .int .i32 y1 := hd.2.1.plain rfl
      have e13 : a.tmps.getD 13 undef = .int .i32 y0 := hd.2.2.1.plain rfl
      clear hf hd
      have hE := HE.out
      have HS : Hid (St0 w t s op x wi) := Lib.hid hS.st
      have HSS := Lib.hid hS; clear hS
      have hK0 := Lib.hid hK; clear hK hc
      go_simp
      refine (HF.out wi).mono ?_
      rintro e wA ⟨rfl, rfl⟩
      exact hK0.out _ _ (Reg.Known.mk_val rfl rfl) (fun _ _ h => h) HSS.out
    refine Reg.Steps.zip ?_ ?_
    · refine Reg.step_go rfl ?_
      intro a wi ki hf hd hS hc K hK
      have e14 : a.tmps.getD 14 undef = .int .i32 y := hd.1.plain rfl
      clear hf hd
      have k14 : a.tmps[14]?.getD undef = .int .i32 y := by rw [← e14]; simp
      have HZ3 := Lib.hid hS.sz3
      have HS : Hid (St0 w t s op x wi) := Lib.hid hS.st
      have HSS := Lib.hid hS; clear hS
      have hK0 := Lib.hid hK; clear hK hc
      go_simp
      have hbA := below_alloc wi (.cells (i32s [y]).toArray 21)
      have hT := HZ3.out
      exact hK0.out _ _ (Reg.Known.mk_other rfl (XW.mk0 (by decide) (Own32.fresh wi [y] (by simp) HZ3.out))) (fun _ _ h => Reg.Known.keepX h (fun hx => hx.step hbA)) (HSS.out.step hbA)
    refine Reg.Steps.zip ?_ ?_
    · refine Reg.step_go rfl ?_
      intro a wi ki hf hd hS hc K hK
      have e4 : a.tmps.getD 4 undef = (stV t s op x) := hd.1.plain rfl
      have x15 := hd.2.1.other rfl
      clear hf hd
      have y9 := x15.1 rfl
      obtain ⟨A9, n9, k9, e9⟩ := y9.shape
      rw [e9] at y9
      have Y9 := Lib.hid y9; clear y9 x15
      have HZ3 := Lib.hid hS.sz3
      have HS : Hid (St0 w t s op x wi) := Lib.hid hS.st
      have HSS := Lib.hid hS; clear hS
      have hK0 := Lib.hid hK; clear hK hc
      go_simp
      refine (HW.out wi (.slice A9 n9 k9) HS.out.st Y9.out.v).mono ?_
      rintro e wA ⟨⟨s', rfl, ho⟩, hbA⟩
      exact hK0.out _ _ (Reg.Known.mk_other rfl (XW.mk1 (by decide) ⟨s', rfl, ho.less HZ3.out⟩)) (fun _ _ h => Reg.Known.keepX h (fun hx => hx.step hbA)) (HSS.out.step hbA)
    refine Reg.Steps.zip ?_ ?_
    · refine Reg.step_go rfl ?_
      intro a wi ki hf hd hS hc K hK
      have x16 := hd.1.other rfl
      clear hf hd
      obtain ⟨s', es, ho⟩ := x16.2.1 rfl
      have HO := Lib.hid ho; clear ho x16
      have HS : Hid (St0 w t s op x wi) := Lib.hid hS.st
      have HSS := Lib.hid hS; clear hS
      have hK0 := Lib.hid hK; clear hK hc
      go_simp
      skip
      skip
      exact hK0.out _ _ (Reg.Known.mk_other rfl (XW.mk2 (by decide) ⟨s', rfl, HO.out⟩)) (fun _ _ h => h) HSS.out
    refine Reg.Steps.zip ?_ ?_
    · refine Reg.step_go rfl ?_
      intro a wi ki hf hd hS hc K hK
      have x16 := hd.1.other rfl
      clear hf hd
      obtain ⟨s', es, ho⟩ := x16.2.1 rfl
      have HO := Lib.hid ho; clear ho x16
      have HS : Hid (St0 w t s op x wi) := Lib.hid hS.st
      have HSS := Lib.hid hS; clear hS
      have hK0 := Lib.hid hK; clear hK hc
      go_simp
      skip
      skip
      exact hK0.out _ _ (Reg.Known.mk_val rfl rfl) (fun _ _ h => h) HSS.out
    refine Reg.Steps.zip ?_ ?_
    · refine Reg.step_go rfl ?_
      intro a wi ki hf hd hS hc K hK
      have x17 := hd.1.other rfl
      have f2 : a.tmps.getD 2 undef = .pointer (some ⟨(w.heap.size + 1), 0, none⟩) := hf.same 2 rfl
      clear hf hd
      obtain rfl := hc 0 rfl
      obtain ⟨s', es, ho⟩ := x17.2.2 rfl
      exact wpPutTask _ _ rfl _ _ _ f2 es _ _ _ hS.2.1 ho.one (hK _ _ (Reg.Known.mk_val rfl rfl) (fun i u h => Reg.Known.keepX h (fun hx => hx.row (by omega))) (hS.one ho))
    refine Reg.Steps.zip ?_ ?_
    · refine Reg.step_go rfl ?_
      intro a wi ki hf hd hS hc K hK
      have e18 : a.tmps.getD 18 undef = (outV 1 0 0) := hd.1.plain rfl
      have f3 : a.tmps.getD 3 undef = .pointer (some ⟨(w.heap.size + 2), 0, none⟩) := hf.same 3 rfl
      clear hf hd
      obtain rfl := hc 1 rfl
      exact wpPutOut _ _ rfl _ _ _ _ f3 e18 _ _ _ _ hS.2.2 (hK _ _ (Reg.Known.mk_val rfl rfl) (fun i u h => Reg.Known.keepX h (fun hx => hx.row (by omega))) hS.two)
    exact Reg.Steps.nil
  case finish =>
    intro a w8 hf hd hS
    have f2 : a.tmps.getD 2 undef = .pointer (some ⟨(w.heap.size + 1), 0, none⟩) := hf.same 2 rfl
    have f3 : a.tmps.getD 3 undef = .pointer (some ⟨(w.heap.size + 2), 0, none⟩) := hf.same 3 rfl
    have hd0 : a.defers = [] := hf.defers
    go_wp2_with fail
    exact hS.ret rfl hd0 f2 f3

end Go.Proofs.Ytjnlgmjcabbaaaa
