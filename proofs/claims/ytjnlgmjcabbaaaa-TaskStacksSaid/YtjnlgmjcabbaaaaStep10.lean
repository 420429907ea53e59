/- The instruction that a task is at; whether it may carry it out; one step. (Drawn: gen/s10.py.) -/
import Derived.Test.YtjnlgmjcabbaaaaDq10
import Derived.Test.YtjnlgmjcabbaaaaImgV8
import Derived.Test.YtjnlgmjcabbaaaaRes
import Derived.Deep.CutRange
import Derived.Deep.CutBlock
import Derived.Deep.DeepCutAuto
namespace Go.Proofs.Ytjnlgmjcabbaaaa
set_option maxRecDepth 100000
open Go.RowKit

def inB (k : Int) (n : Nat) : Bool := decide (0 ≤ k) && decide (k < n)
def rowZ (I : List CodeL) (f : Int) : CodeL := if inB f I.length then I.getD f.toNat [] else []
def insZ (f : CodeL) (p : Int) : Int × Int := if inB p f.length then f.getD p.toNat (0, 0) else (0, 0)
theorem inB_neg {k : Int} {n : Nat} (h : k < 0) : inB k n = false := by unfold inB; rw [decide_eq_false (by omega)]; rfl
theorem inB_big {k : Int} {n : Nat} (h : (n : Int) ≤ k) : inB k n = false := by unfold inB; rw [decide_eq_false (p := k < n) (by omega), Bool.and_false]
theorem inB_yes {k n : Nat} (h : k < n) : inB (k : Int) n = true := by unfold inB; rw [decide_eq_true (by omega), decide_eq_true (by omega)]; rfl

set_option maxRecDepth 100000 in
set_option maxHeartbeats 4000000 in
theorem elemRow_any (I : List CodeL) (v : Value) (f : Int) (w : World) (hv : ImgV w w.heap.size v I) :
    Calls Try.prog 86 #[v, .int .i64 f] w fun e w' => (∃ x, e = .returned (.tuple #[x, .bool (inB f I.length)]) ∧ RowI w w.heap.size x (rowZ I f)) ∧ w' = w := by
  have HV := Lib.hid hv
  obtain ⟨A, c, vs, rfl, _⟩ := hv
  obtain ⟨n, hn⟩ : ∃ n, I.length = n := ⟨_, rfl⟩
  have HN := Lib.hid hn
  rw [hn] at HV ⊢
  obtain ⟨r, hr⟩ : ∃ r, rowZ I f = r := ⟨_, rfl⟩
  rw [hr]
  have hnil : RowI w w.heap.size (.slice none 0 0) [] := ⟨none, 0, rfl, Lies.nil, by simp⟩
  have HNIL := Lib.hid hnil
  by_cases h1 : f < 0
  · have hr2 : r = [] := by rw [← hr]; unfold rowZ; rw [inB_neg h1]; rfl
    rw [inB_neg h1, hr2]
    clear hn hr hr2 hnil
    go_enter Try.func86, Try.ntmps86
    go_wp2_with fail
    go_ret2
    exact ⟨⟨_, rfl, HNIL.out⟩, rfl⟩
  · by_cases h2 : (n : Int) ≤ f
    · have hr2 : r = [] := by rw [← hr]; unfold rowZ; rw [hn, inB_big h2]; rfl
      rw [inB_big h2, hr2]
      clear hn hr hr2 hnil
      go_enter Try.func86, Try.ntmps86
      go_wp2_with fail
      go_ret2
      exact ⟨⟨_, rfl, HNIL.out⟩, rfl⟩
    · obtain ⟨k, rfl⟩ : ∃ k : Nat, f = k := ⟨f.toNat, by omega⟩
      have hk : k < n := by omega
      obtain ⟨b, off, c', x, hvv, _, hcell, hrow, _⟩ := HV.out.row (k := k) (by rw [hn]; exact hk)
      rw [hn] at hvv
      obtain rfl : A = some ⟨b, off, none⟩ := by injection hvv
      have hr2 : r = I.getD k [] := by rw [← hr]; unfold rowZ; rw [hn, inB_yes hk]; rfl
      rw [inB_yes hk, hr2]
      have HR := Lib.hid hrow
      clear hn hr hr2 hnil hvv hrow
      go_enter Try.func86, Try.ntmps86
      go_wp2_with fail
      go_ret2
      exact ⟨⟨_, rfl, HR.out⟩, rfl⟩

set_option maxRecDepth 100000 in
set_option maxHeartbeats 4000000 in
theorem elemIns_any (f : CodeL) (v : Value) (p : Int) (w : World) (hv : RowI w w.heap.size v f) :
    Calls Try.prog 87 #[v, .int .i64 p] w fun e w' => e = .returned (.tuple #[insV (insZ f p).1 (insZ f p).2, .bool (inB p f.length)]) ∧ Below w.heap.size w w' := by
  have HV := Lib.hid hv
  obtain ⟨A, c, rfl, _, _⟩ := hv
  obtain ⟨n, hn⟩ : ∃ n, f.length = n := ⟨_, rfl⟩
  have HN := Lib.hid hn
  rw [hn] at HV ⊢
  have HB2 := Lib.hid (nextB (below_alloc w (.cells #[.int .i64 0, .int .i32 0] 32)) (below_alloc _ (.cells #[.int .i64 0, .int .i32 0] 32)))
  by_cases h1 : p < 0
  · have hr2 : insZ f p = (0, 0) := by unfold insZ; rw [inB_neg h1]; rfl
    rw [inB_neg h1, hr2]
    clear hn hr2
    unfold insV
    go_enter Try.func87, Try.ntmps87
    go_wp2_with fail
    exact ret_instr2 rfl rfl rfl (heapOld (heapNew rfl)) ⟨rfl, HB2.out⟩
  · by_cases h2 : (n : Int) ≤ p
    · have hr2 : insZ f p = (0, 0) := by unfold insZ; rw [hn, inB_big h2]; rfl
      rw [inB_big h2, hr2]
      clear hn hr2
      unfold insV
      go_enter Try.func87, Try.ntmps87
      go_wp2_with fail
      exact ret_instr2 rfl rfl rfl (heapOld (heapNew rfl)) ⟨rfl, HB2.out⟩
    · obtain ⟨k, rfl⟩ : ∃ k : Nat, p = k := ⟨p.toNat, by omega⟩
      have hk : k < n := by omega
      obtain ⟨b, off, c', hvv, hb, i0, i1⟩ := HV.out.cells (k := k) (by rw [hn]; exact hk)
      rw [hn] at hvv
      obtain rfl : A = some ⟨b, off, none⟩ := by injection hvv
      have hr2 : insZ f (k : Int) = (cop f k, carg f k) := by unfold insZ; rw [hn, inB_yes hk]; rfl
      rw [inB_yes hk, hr2]
      obtain ⟨op, hop⟩ : ∃ z, cop f k = z := ⟨_, rfl⟩
      obtain ⟨x, hx⟩ : ∃ z, carg f k = z := ⟨_, rfl⟩
      rw [hop] at i0; rw [hx] at i1
      rw [hop, hx]
      clear hn hr2 hvv hop hx
      unfold insV
      go_enter Try.func87, Try.ntmps87
      go_wp2_with fail
      exact ret_instr2 rfl rfl rfl (heapNew rfl) ⟨rfl, below_alloc _ _⟩

/-- The instruction that a task is at, and whether there is one. -/
def curZ (I : List CodeL) (fn pc : Int) : (Int × Int) × Bool := (insZ (rowZ I fn) pc, inB pc (rowZ I fn).length && knownB (insZ (rowZ I fn) pc).1)

/-- The cells of current: the instruction that was found, and the result's. -/
structure Cu (w : World) (p : Nat) (op x : Int) (w' : World) : Prop where
  b : w'.heap[p]? = some (.cells #[.int .i64 op, .int .i32 x] 32 (0, 0))
  bl : Below w.heap.size w w'
  lp : w.heap.size + 1 < p
def CuS (w : World) (p : Nat) (op x : Int) : Nat → World → Prop
  | 0, w' => Cu w p op x w' ∧ w'.heap[w.heap.size + 1]? = some (.cells #[.int .i64 0, .int .i32 0] 32 (0, 0))
  | _, w' => Cu w p op x w' ∧ w'.heap[w.heap.size + 1]? = some (.cells #[.int .i64 op, .int .i32 x] 32 (0, 0))
section
variable {w w' : World} {p n : Nat} {op x : Int}
theorem CuS.cu (h : CuS w p op x n w') : Cu w p op x w' := by
  match n, h with
  | 0, h => exact h.1
  | n + 1, h => exact h.1
theorem CuS.c0 (h : CuS w p op x n w') : w'.cell? ⟨p, 0, none⟩ = some (.int .i64 op) := cell_blk h.cu.b 0
theorem CuS.c1 (h : CuS w p op x n w') : w'.cell? ⟨p, 1, none⟩ = some (.int .i32 x) := cell_blk h.cu.b 1
theorem CuS.store (h : CuS w p op x 0 w') : CuS w p op x 1 ((w'.setCell ⟨w.heap.size + 1, 0, none⟩ (.int .i64 op)).setCell ⟨w.heap.size + 1, 1, none⟩ (.int .i32 x)) := by
  have hlp := h.1.lp
  refine ⟨⟨?_, (h.1.bl.trans (cell_below (by omega) _)).trans (cell_below (by omega) _), hlp⟩, ?_⟩
  · rw [cell_far (by omega), cell_far (by omega)]; exact h.1.b
  · have := set_blk (set_blk h.2 0 (.int .i64 op)) 1 (.int .i32 x)
    simpa using this
end

def cutVal (gp _g : Nat) (op x : Int) (kb : Bool) : Nat → Value
  | 0 => .agg #[.int .i64 op, .int .i32 x]
  | 1 => .bool true
  | 2 => .bool true
  | 3 => .pointer (some ⟨gp, 0, none⟩)
  | 4 => .int .i64 op
  | 5 => .bool kb
  | 6 => .bool kb
  | 7 => undef
  | 8 => .bool kb
  | _ => undef


def cufVal (_gp _g : Nat) (op x : Int) (_kb : Bool) : Nat → Value
  | 0 => .agg #[.int .i64 op, .int .i32 x]
  | 1 => .bool false
  | 2 => .bool false
  | 3 => undef
  | 4 => undef
  | 5 => undef
  | 6 => .bool false
  | 7 => undef
  | 8 => .bool false
  | _ => undef


set_option maxRecDepth 100000 in
set_option maxHeartbeats 8000000 in
theorem current_any (t : TK) (s : Value) (I : List CodeL) (v : Value) (w : World) (hv : ImgV w w.heap.size v I) :
    Calls Try.prog 64 #[taskV t s, v] w fun e w' => e = .returned (.tuple #[insV (curZ I t.fn t.pc).1.1 (curZ I t.fn t.pc).1.2, .bool (curZ I t.fn t.pc).2]) ∧ Below w.heap.size w w' := by
  have HV := Lib.hid hv
  obtain ⟨f, hf⟩ : ∃ f, rowZ I t.fn = f := ⟨_, rfl⟩
  obtain ⟨op, hop⟩ : ∃ z, (insZ f t.pc).1 = z := ⟨_, rfl⟩
  obtain ⟨x, hx⟩ : ∃ z, (insZ f t.pc).2 = z := ⟨_, rfl⟩
  obtain ⟨fd, hfd⟩ : ∃ z, inB t.pc f.length = z := ⟨_, rfl⟩
  obtain ⟨kb, hkb⟩ : ∃ z, knownB op = z := ⟨_, rfl⟩
  obtain ⟨b1, hb1⟩ : ∃ z, inB t.fn I.length = z := ⟨_, rfl⟩
  have HC : Hid (curZ I t.fn t.pc = ((op, x), fd && kb)) := Lib.hid (by unfold curZ; rw [hf, hfd, hop, hkb, ← hop, ← hx])
  rw [HC.out]
  show Calls _ _ _ _ fun e w' => e = .returned (.tuple #[insV op x, .bool (fd && kb)]) ∧ Below w.heap.size w w'
  have HE : Hid (∀ w, ImgV w w.heap.size v I → Calls Try.prog 86 #[v, .int .i64 t.fn] w fun e w' => (∃ x, e = .returned (.tuple #[x, .bool b1]) ∧ RowI w w.heap.size x f) ∧ w' = w) := Lib.hid fun w h => by rw [← hf, ← hb1]; exact elemRow_any I v t.fn w h
  have HEI : Hid (∀ w r, RowI w w.heap.size r f → Calls Try.prog 87 #[r, .int .i64 t.pc] w fun e w' => e = .returned (.tuple #[insV op x, .bool fd]) ∧ Below w.heap.size w w') := Lib.hid fun w r h => by rw [← hop, ← hx, ← hfd]; exact elemIns_any f r t.pc w h
  have HK : Hid (∀ w, Calls Try.prog 88 #[.int .i64 op] w fun e w' => e = .returned (.bool kb) ∧ w' = w) := Lib.hid fun w => by rw [← hkb]; exact known_any op w
  clear hf hop hx hfd hkb hb1 HC hv
  have hb2 := nextB (below_alloc w (.cells (taskA t s) 66)) (below_alloc _ (.cells #[.int .i64 0, .int .i32 0] 32))
  unfold taskA at hb2
  have HB2 := Lib.hid hb2
  clear hb2
  unfold taskV taskA
  go_enter Try.func64, Try.ntmps64
  go_wp2_with fail
  refine (HE.out _ (HV.out.later HB2.out)).mono ?_
  rintro e w2 ⟨⟨r, rfl, hr⟩, rfl⟩
  have HR := Lib.hid hr; clear hr
  go_wp2_with fail
  refine (HEI.out _ r HR.out).mono ?_
  rintro e w3 ⟨rfl, hb⟩
  have HZ : Hid (w3.heap[w.heap.size + 1]? = some (.cells #[.int .i64 0, .int .i32 0] 32 (0, 0))) := Lib.hid (heapLater hb (by simp) (heapNew (by simp)))
  have HSZ : Hid (w.heap.size + 2 ≤ w3.heap.size) := Lib.hid (by have := hb.size; simpa using this)
  have B3 := Lib.hid (nextB HB2.out hb)
  clear hb HR HE HEI HV
  unfold insV
  go_upto_region 3 with (fail)
  obtain ⟨w4, h4⟩ : ∃ w4, w4 = w3.alloc (.cells #[.int .i64 op, .int .i32 x] 32) := ⟨_, rfl⟩
  rw [show Code.wp Try.prog _ _ _ _ = Code.wp Try.prog _ _ _ w4 from by rw [h4]]
  have HCU : Hid (CuS w w3.heap.size op x 0 w4) := Lib.hid (by
    have hb4 : Below w3.heap.size w3 w4 := by rw [h4]; exact below_alloc _ _
    have hsz := HSZ.out
    refine ⟨⟨by rw [h4]; exact heapNew rfl, nextB B3.out hb4, by omega⟩, heapLater hb4 (by omega) HZ.out⟩)
  clear h4 HZ
  cases fd with
  | true =>
    refine Reg.wp_facts_sl [24, 25, 26, 27, 28, 29, 30, 5] rfl [7] [[], [], [(1, 25)], [], [(3, 27)], [(4, 28)], [(2, 26), (5, 29)], [(0, 24)], [(6, 30)]] [(8, 5)] (Reg.Known (cutVal w3.heap.size w.heap.size op x kb) (fun _ _ _ => True) []) (CuS w w3.heap.size op x) (by kernel_rfl) (by kernel_rfl) ?start ?steps ?finish
    case start => exact ⟨⟨HCU.out.1.b, HCU.out.1.bl.drew, HCU.out.1.lp⟩, HCU.out.2⟩
    case steps =>
      refine Reg.Steps.zip ?_ ?_
      · refine Reg.step_go rfl ?_
        intro a wi ki hf hd hS hc K hK
        have f8 : a.tmps.getD 8 undef = .pointer (some ⟨w3.heap.size, 0, none⟩) := hf.same 8 rfl
        clear hf hd hc
        have cc0 := hS.c0
        have cc1 := hS.c1
        have hK0 := Lib.hid hK; clear hK
        have hS0 := Lib.hid hS; clear hS
        go_simp
        exact hK0.out _ _ (Reg.Known.mk_val rfl rfl) (fun _ _ h => h) hS0.out
      refine Reg.Steps.zip ?_ ?_
      · refine Reg.step_go rfl ?_
        intro a wi ki hf hd hS hc K hK
        have f9 : a.tmps.getD 9 undef = .bool true := hf.same 9 rfl
        clear hf hd hc
        have hK0 := Lib.hid hK; clear hK
        have hS0 := Lib.hid hS; clear hS
        go_simp
        exact hK0.out _ _ (Reg.Known.mk_val rfl rfl) (fun _ _ h => h) hS0.out
      refine Reg.Steps.zip ?_ ?_
      · refine Reg.step_go rfl ?_
        intro a wi ki hf hd hS hc K hK
        have e25 : a.tmps.getD 25 undef = .bool true := hd.1.plain rfl
        clear hf hd hc
        have hK0 := Lib.hid hK; clear hK
        have hS0 := Lib.hid hS; clear hS
        go_simp
        exact hK0.out _ _ (Reg.Known.mk_val rfl rfl) (fun _ _ h => h) hS0.out
      refine Reg.Steps.zip ?_ ?_
      · refine Reg.step_on rfl (fun u w h => h.plain rfl) ?_
        intro a wi ki hf hd hS hc K hK
        have f8 : a.tmps.getD 8 undef = .pointer (some ⟨w3.heap.size, 0, none⟩) := hf.same 8 rfl
        clear hf hd hc
        have hK0 := Lib.hid hK; clear hK
        have hS0 := Lib.hid hS; clear hS
        go_simp
        exact hK0.out _ _ (Reg.Known.mk_val rfl rfl) (fun _ _ h => h) hS0.out
      refine Reg.Steps.zip ?_ ?_
      · refine Reg.step_on rfl (fun u w h => h.plain rfl) ?_
        intro a wi ki hf hd hS hc K hK
        have e27 : a.tmps.getD 27 undef = .pointer (some ⟨w3.heap.size, 0, none⟩) := hd.1.plain rfl
        clear hf hd hc
        have cc0 := hS.c0
        have hK0 := Lib.hid hK; clear hK
        have hS0 := Lib.hid hS; clear hS
        go_simp
        exact hK0.out _ _ (Reg.Known.mk_val rfl rfl) (fun _ _ h => h) hS0.out
      refine Reg.Steps.zip ?_ ?_
      · refine Reg.step_on rfl (fun u w h => h.plain rfl) ?_
        intro a wi ki hf hd hS hc K hK
        have e28 : a.tmps.getD 28 undef = .int .i64 op := hd.1.plain rfl
        clear hf hd
        have HSS := Lib.hid hS; clear hS
        have hK0 := Lib.hid hK; clear hK hc
        go_simp
        refine (HK.out wi).mono ?_
        rintro e wA ⟨rfl, rfl⟩
        exact hK0.out _ _ (Reg.Known.mk_val rfl rfl) (fun _ _ h => h) HSS.out
      refine Reg.Steps.zip ?_ ?_
      · refine Reg.step_go rfl ?_
        intro a wi ki hf hd hS hc K hK
        have e26 : a.tmps.getD 26 undef = .bool true := hd.1.plain rfl
        have e29 : a.tmps.getD 29 undef = .bool kb := hd.2.1.plain rfl
        clear hf hd hc
        have hK0 := Lib.hid hK; clear hK
        have hS0 := Lib.hid hS; clear hS
        go_simp
        exact hK0.out _ _ (Reg.Known.mk_val rfl rfl) (fun _ _ h => h) hS0.out
      refine Reg.Steps.zip ?_ ?_
      · refine Reg.step_go rfl ?_
        intro a wi ki hf hd hS hc K hK
        have e24 : a.tmps.getD 24 undef = .agg #[.int .i64 op, .int .i32 x] := hd.1.plain rfl
        have f4 : a.tmps.getD 4 undef = .pointer (some ⟨(w.heap.size + 1), 0, none⟩) := hf.same 4 rfl
        clear hf hd
        obtain rfl := hc 0 rfl
        have c0 : wi.cell? ⟨w.heap.size + 1, 0, none⟩ = _ := cell_blk hS.2 0
        have c1 : wi.cell? ⟨w.heap.size + 1, 1, none⟩ = _ := cell_blk hS.2 1
        have f0 : wi.frozen? ⟨w.heap.size + 1, 0, none⟩ = false := frozen_blk hS.2 0
        have f1 : wi.frozen? ⟨w.heap.size + 1, 1, none⟩ = false := frozen_blk hS.2 1
        have HS := Lib.hid hS; clear hS
        have hK0 := Lib.hid hK; clear hK hc
        go_simp
        exact hK0.out undef _ (Reg.Known.mk_val rfl rfl) (fun _ _ h => Reg.Known.keepX h id) HS.out.store
      refine Reg.Steps.zip ?_ ?_
      · refine Reg.step_go rfl ?_
        intro a wi ki hf hd hS hc K hK
        have e30 : a.tmps.getD 30 undef = .bool kb := hd.1.plain rfl
        clear hf hd hc
        have hK0 := Lib.hid hK; clear hK
        have hS0 := Lib.hid hS; clear hS
        go_simp
        exact hK0.out _ _ (Reg.Known.mk_val rfl rfl) (fun _ _ h => h) hS0.out
      exact Reg.Steps.nil
    case finish =>
      intro a w8 hf hd hS
      have f4 : a.tmps.getD 4 undef = .pointer (some ⟨w.heap.size + 1, 0, none⟩) := hf.same 4 rfl
      have f5 : a.tmps.getD 5 undef = .bool kb := hd.1.plain rfl
      have hd0 : a.defers = [] := hf.defers
      go_wp2_with fail
      exact ret_instr2 rfl hd0 f4 hS.2 ⟨by rw [f5]; rfl, hS.1.bl⟩
  | false =>
    refine Reg.wp_facts_sl [24, 25, 26, 27, 28, 29, 30, 5] rfl [7] [[], [], [(1, 25)], [], [(3, 27)], [(4, 28)], [(2, 26), (5, 29)], [(0, 24)], [(6, 30)]] [(8, 5)] (Reg.Known (cufVal w3.heap.size w.heap.size op x kb) (fun _ _ _ => True) []) (CuS w w3.heap.size op x) (by kernel_rfl) (by kernel_rfl) ?start ?steps ?finish
    case start => exact ⟨⟨HCU.out.1.b, HCU.out.1.bl.drew, HCU.out.1.lp⟩, HCU.out.2⟩
    case steps =>
      refine Reg.Steps.zip ?_ ?_
      · refine Reg.step_go rfl ?_
        intro a wi ki hf hd hS hc K hK
        have f8 : a.tmps.getD 8 undef = .pointer (some ⟨w3.heap.size, 0, none⟩) := hf.same 8 rfl
        clear hf hd hc
        have cc0 := hS.c0
        have cc1 := hS.c1
        have hK0 := Lib.hid hK; clear hK
        have hS0 := Lib.hid hS; clear hS
        go_simp
        exact hK0.out _ _ (Reg.Known.mk_val rfl rfl) (fun _ _ h => h) hS0.out
      refine Reg.Steps.zip ?_ ?_
      · refine Reg.step_go rfl ?_
        intro a wi ki hf hd hS hc K hK
        have f9 : a.tmps.getD 9 undef = .bool false := hf.same 9 rfl
        clear hf hd hc
        have hK0 := Lib.hid hK; clear hK
        have hS0 := Lib.hid hS; clear hS
        go_simp
        exact hK0.out _ _ (Reg.Known.mk_val rfl rfl) (fun _ _ h => h) hS0.out
      refine Reg.Steps.zip ?_ ?_
      · refine Reg.step_go rfl ?_
        intro a wi ki hf hd hS hc K hK
        have e25 : a.tmps.getD 25 undef = .bool false := hd.1.plain rfl
        clear hf hd hc
        have hK0 := Lib.hid hK; clear hK
        have hS0 := Lib.hid hS; clear hS
        go_simp
        exact hK0.out _ _ (Reg.Known.mk_val rfl rfl) (fun _ _ h => h) hS0.out
      refine Reg.Steps.zip ?_ ?_
      · exact Reg.step_off rfl (fun u w h => h.plain rfl) (fun w => Reg.Known.mk_val rfl rfl) rfl
      refine Reg.Steps.zip ?_ ?_
      · exact Reg.step_off rfl (fun u w h => h.plain rfl) (fun w => Reg.Known.mk_val rfl rfl) rfl
      refine Reg.Steps.zip ?_ ?_
      · exact Reg.step_off rfl (fun u w h => h.plain rfl) (fun w => Reg.Known.mk_val rfl rfl) rfl
      refine Reg.Steps.zip ?_ ?_
      · refine Reg.step_go rfl ?_
        intro a wi ki hf hd hS hc K hK
        have e26 : a.tmps.getD 26 undef = .bool false := hd.1.plain rfl
        have e29 : a.tmps.getD 29 undef = undef := hd.2.1.plain rfl
        clear hf hd hc
        have hK0 := Lib.hid hK; clear hK
        have hS0 := Lib.hid hS; clear hS
        go_simp
        exact hK0.out _ _ (Reg.Known.mk_val rfl rfl) (fun _ _ h => h) hS0.out
      refine Reg.Steps.zip ?_ ?_
      · refine Reg.step_go rfl ?_
        intro a wi ki hf hd hS hc K hK
        have e24 : a.tmps.getD 24 undef = .agg #[.int .i64 op, .int .i32 x] := hd.1.plain rfl
        have f4 : a.tmps.getD 4 undef = .pointer (some ⟨(w.heap.size + 1), 0, none⟩) := hf.same 4 rfl
        clear hf hd
        obtain rfl := hc 0 rfl
        have c0 : wi.cell? ⟨w.heap.size + 1, 0, none⟩ = _ := cell_blk hS.2 0
        have c1 : wi.cell? ⟨w.heap.size + 1, 1, none⟩ = _ := cell_blk hS.2 1
        have f0 : wi.frozen? ⟨w.heap.size + 1, 0, none⟩ = false := frozen_blk hS.2 0
        have f1 : wi.frozen? ⟨w.heap.size + 1, 1, none⟩ = false := frozen_blk hS.2 1
        have HS := Lib.hid hS; clear hS
        have hK0 := Lib.hid hK; clear hK hc
        go_simp
        exact hK0.out undef _ (Reg.Known.mk_val rfl rfl) (fun _ _ h => Reg.Known.keepX h id) HS.out.store
      refine Reg.Steps.zip ?_ ?_
      · refine Reg.step_go rfl ?_
        intro a wi ki hf hd hS hc K hK
        have e30 : a.tmps.getD 30 undef = .bool false := hd.1.plain rfl
        clear hf hd hc
        have hK0 := Lib.hid hK; clear hK
        have hS0 := Lib.hid hS; clear hS
        go_simp
        exact hK0.out _ _ (Reg.Known.mk_val rfl rfl) (fun _ _ h => h) hS0.out
      exact Reg.Steps.nil
    case finish =>
      intro a w8 hf hd hS
      have f4 : a.tmps.getD 4 undef = .pointer (some ⟨w.heap.size + 1, 0, none⟩) := hf.same 4 rfl
      have f5 : a.tmps.getD 5 undef = .bool false := hd.1.plain rfl
      have hd0 : a.defers = [] := hf.defers
      go_wp2_with fail
      exact ret_instr2 rfl hd0 f4 hS.2 ⟨by rw [f5]; rfl, hS.1.bl⟩

/-- Whether the state may carry its instruction out. -/
def hasB (op x : Int) : Bool := argZ op != 3 || (decide (0 ≤ x) && decide (x < 4))
def rightS (n : Nat) (op x : Int) : Bool := hasB op x && decide (popsZ op ≤ n)

def ritVal (A : Option Addr) (n c g : Nat) (op p : Int) (bl : Bool) : Nat → Value
  | 0 => .bool true
  | 1 => .bool true
  | 2 => .pointer (some ⟨g, 0, none⟩)
  | 3 => .pointer (some ⟨g, 3, none⟩)
  | 4 => .slice A n c
  | 5 => .int .i64 n
  | 6 => .pointer (some ⟨g, 12, none⟩)
  | 7 => .pointer (some ⟨g, 12, none⟩)
  | 8 => .int .i64 op
  | 9 => .int .i64 p
  | 10 => .bool bl
  | 11 => .bool bl
  | 12 => .bool bl
  | _ => undef


def rifVal (_A : Option Addr) (_n _c _g : Nat) (_op _p : Int) (_bl : Bool) : Nat → Value
  | 0 => .bool false
  | 1 => .bool false
  | 2 => undef
  | 3 => undef
  | 4 => undef
  | 5 => undef
  | 6 => undef
  | 7 => undef
  | 8 => undef
  | 9 => undef
  | 10 => undef
  | 11 => .bool false
  | 12 => .bool false
  | _ => undef


set_option maxRecDepth 100000 in
set_option maxHeartbeats 8000000 in
theorem rightS_any (t : TK) (s : Value) (op x : Int) (w : World) (hs : I32V w w.heap.size s t.st) (_hn : t.st.length ≤ 100000) :
    Calls Try.prog 65 #[stV t s op x] w fun e w' => e = .returned (.bool (rightS t.st.length op x)) ∧ Below w.heap.size w w' := by
  have HS := Lib.hid hs
  obtain ⟨A, c, rfl, _, _⟩ := hs
  obtain ⟨n, hnn⟩ : ∃ n, t.st.length = n := ⟨_, rfl⟩
  have HN := Lib.hid hnn
  rw [hnn] at HS ⊢
  obtain ⟨p, hp⟩ : ∃ p, popsZ op = p := ⟨_, rfl⟩
  obtain ⟨az, haz⟩ : ∃ z, argZ op = z := ⟨_, rfl⟩
  obtain ⟨hb, hhb⟩ : ∃ z, hasB op x = z := ⟨_, rfl⟩
  obtain ⟨bl, hbl⟩ : ∃ z, decide (p ≤ (n : Int)) = z := ⟨_, rfl⟩
  have HP : Hid (∀ w, Calls Try.prog 89 #[.int .i64 op] w fun e w' => e = .returned (.int .i64 p) ∧ Below w.heap.size w w') := Lib.hid fun w => by rw [← hp]; exact pops_any op w
  have HAZ : Hid (∀ w, Calls Try.prog 78 #[.int .i64 op] w fun e w' => e = .returned (.int .i64 az) ∧ Below w.heap.size w w') := Lib.hid fun w => by rw [← haz]; exact arg_any op w
  have HRS : rightS n op x = (hb && bl) := by unfold rightS; rw [hhb, hp, hbl]
  rw [HRS]
  have HHB : Hid (hb = (az != 3 || (decide (0 ≤ x) && decide (x < 4)))) := Lib.hid (by rw [← hhb, ← haz]; rfl)
  have HBL := Lib.hid hbl
  have HST : Hid (St0 w t (.slice A n c) op x (w.alloc (.cells (stateA t (.slice A n c) op x) 109))) := Lib.hid ⟨heapNew rfl, HS.out.below (below_alloc _ _), below_alloc _ _, by simp⟩
  obtain ⟨w1, h1⟩ : ∃ w1, w1 = w.alloc (.cells (stateA t (.slice A n c) op x) 109) := ⟨_, rfl⟩
  rw [← h1] at HST
  clear hnn hp haz hhb hbl HRS
  unfold stV stateA
  go_enter Try.func65, Try.ntmps65
  go_upto_region 1 with (fail)
  rw [show Code.wp Try.prog _ _ _ _ = Code.wp Try.prog _ _ _ w1 from by rw [h1]; rfl]
  clear h1
  go_cut [3] from 4 to 20 (fun v wx => v = .bool hb ∧ St0 w t (.slice A n c) op x wx)
  case first =>
    have cc := HST.out.c12
    go_wp2_with fail
    refine (HAZ.out w1).mono ?_
    rintro e w2 ⟨rfl, hb2⟩
    have HST2 := Lib.hid (HST.out.step hb2)
    have c13 := HST2.out.c13
    clear hb2 HST cc
    by_cases h3 : az = 3
    · subst h3
      by_cases h0 : 0 ≤ x
      · have hh : hb = decide (x < 4) := by rw [HHB.out, decide_eq_true h0]; simp
        go_wp2_with fail
        go_meet
        exact ⟨by rw [hh], HST2.out⟩
      · have hh : hb = false := by rw [HHB.out, decide_eq_false h0]; simp
        go_wp2_with fail
        go_meet
        exact ⟨by rw [hh], HST2.out⟩
    · have e3 : (az == 3) = false := by simpa using h3
      have e4 : (az != 3) = true := by simpa using h3
      have hh : hb = true := by rw [HHB.out, e4]; simp
      go_wp2_with fail
      go_meet
      exact ⟨by rw [hh], HST2.out⟩
  case rest =>
    obtain ⟨rfl, hst⟩ := hcut
    have HCT := Lib.hid hst
    clear hst HST HAZ HHB
    go_upto_region 2 with (fail)
    cases hb with
    | true =>
      refine Reg.wp_facts_sl [21, 22, 23, 24, 25, 26, 27, 28, 29, 30, 31, 32, 2] rfl [] [[], [(0, 21)], [], [(2, 23)], [(3, 24)], [(4, 25)], [], [(6, 27)], [(7, 28)], [(8, 29)], [(5, 26), (9, 30)], [(1, 22), (10, 31)], [(11, 32)]] [(12, 2)] (Reg.Known (ritVal A n c w.heap.size op p bl) (fun _ _ _ => True) []) (fun _ w' => St0 w t (.slice A n c) op x w') (by kernel_rfl) (by kernel_rfl) ?start ?steps ?finish
      case start => exact HCT.out.step (Below.refl _ _).drew
      case steps =>
        refine Reg.Steps.zip ?_ ?_
        · refine Reg.step_go rfl ?_
          intro a wi ki hf hd hS hc K hK
          have f3 : a.tmps.getD 3 undef = .bool true := hf.same 3 rfl
          clear hf hd hc
          have hK0 := Lib.hid hK; clear hK
          have hS0 := Lib.hid hS; clear hS
          go_simp
          exact hK0.out _ _ (Reg.Known.mk_val rfl rfl) (fun _ _ h => h) hS0.out
        refine Reg.Steps.zip ?_ ?_
        · refine Reg.step_go rfl ?_
          intro a wi ki hf hd hS hc K hK
          have e21 : a.tmps.getD 21 undef = .bool true := hd.1.plain rfl
          clear hf hd hc
          have hK0 := Lib.hid hK; clear hK
          have hS0 := Lib.hid hS; clear hS
          go_simp
          exact hK0.out _ _ (Reg.Known.mk_val rfl rfl) (fun _ _ h => h) hS0.out
        refine Reg.Steps.zip ?_ ?_
        · refine Reg.step_on rfl (fun u w h => h.plain rfl) ?_
          intro a wi ki hf hd hS hc K hK
          have f1 : a.tmps.getD 1 undef = .pointer (some ⟨w.heap.size, 0, none⟩) := hf.same 1 rfl
          clear hf hd hc
          have hK0 := Lib.hid hK; clear hK
          have hS0 := Lib.hid hS; clear hS
          go_simp
          exact hK0.out _ _ (Reg.Known.mk_val rfl rfl) (fun _ _ h => h) hS0.out
        refine Reg.Steps.zip ?_ ?_
        · refine Reg.step_on rfl (fun u w h => h.plain rfl) ?_
          intro a wi ki hf hd hS hc K hK
          have e23 : a.tmps.getD 23 undef = .pointer (some ⟨w.heap.size, 0, none⟩) := hd.1.plain rfl
          clear hf hd hc
          have hK0 := Lib.hid hK; clear hK
          have hS0 := Lib.hid hS; clear hS
          go_simp
          exact hK0.out _ _ (Reg.Known.mk_val rfl rfl) (fun _ _ h => h) hS0.out
        refine Reg.Steps.zip ?_ ?_
        · refine Reg.step_on rfl (fun u w h => h.plain rfl) ?_
          intro a wi ki hf hd hS hc K hK
          have e24 : a.tmps.getD 24 undef = .pointer (some ⟨w.heap.size, 3, none⟩) := hd.1.plain rfl
          clear hf hd hc
          have cc := hS.c3
          have hK0 := Lib.hid hK; clear hK
          have hS0 := Lib.hid hS; clear hS
          go_simp
          exact hK0.out _ _ (Reg.Known.mk_val rfl rfl) (fun _ _ h => h) hS0.out
        refine Reg.Steps.zip ?_ ?_
        · refine Reg.step_on rfl (fun u w h => h.plain rfl) ?_
          intro a wi ki hf hd hS hc K hK
          have e25 : a.tmps.getD 25 undef = .slice A n c := hd.1.plain rfl
          clear hf hd hc
          have hK0 := Lib.hid hK; clear hK
          have hS0 := Lib.hid hS; clear hS
          go_simp
          exact hK0.out _ _ (Reg.Known.mk_val rfl rfl) (fun _ _ h => h) hS0.out
        refine Reg.Steps.zip ?_ ?_
        · refine Reg.step_on rfl (fun u w h => h.plain rfl) ?_
          intro a wi ki hf hd hS hc K hK
          have f1 : a.tmps.getD 1 undef = .pointer (some ⟨w.heap.size, 0, none⟩) := hf.same 1 rfl
          clear hf hd hc
          have hK0 := Lib.hid hK; clear hK
          have hS0 := Lib.hid hS; clear hS
          go_simp
          exact hK0.out _ _ (Reg.Known.mk_val rfl rfl) (fun _ _ h => h) hS0.out
        refine Reg.Steps.zip ?_ ?_
        · refine Reg.step_on rfl (fun u w h => h.plain rfl) ?_
          intro a wi ki hf hd hS hc K hK
          have e27 : a.tmps.getD 27 undef = .pointer (some ⟨w.heap.size, 12, none⟩) := hd.1.plain rfl
          clear hf hd hc
          have hK0 := Lib.hid hK; clear hK
          have hS0 := Lib.hid hS; clear hS
          go_simp
          exact hK0.out _ _ (Reg.Known.mk_val rfl rfl) (fun _ _ h => h) hS0.out
        refine Reg.Steps.zip ?_ ?_
        · refine Reg.step_on rfl (fun u w h => h.plain rfl) ?_
          intro a wi ki hf hd hS hc K hK
          have e28 : a.tmps.getD 28 undef = .pointer (some ⟨w.heap.size, 12, none⟩) := hd.1.plain rfl
          clear hf hd hc
          have cc := hS.c12
          have hK0 := Lib.hid hK; clear hK
          have hS0 := Lib.hid hS; clear hS
          go_simp
          exact hK0.out _ _ (Reg.Known.mk_val rfl rfl) (fun _ _ h => h) hS0.out
        refine Reg.Steps.zip ?_ ?_
        · refine Reg.step_on rfl (fun u w h => h.plain rfl) ?_
          intro a wi ki hf hd hS hc K hK
          have e29 : a.tmps.getD 29 undef = .int .i64 op := hd.1.plain rfl
          clear hf hd
          have HSS := Lib.hid hS; clear hS
          have hK0 := Lib.hid hK; clear hK hc
          go_simp
          refine (HP.out wi).mono ?_
          rintro e wA ⟨rfl, hbA⟩
          exact hK0.out _ _ (Reg.Known.mk_val rfl rfl) (fun _ _ h => Reg.Known.keepX h id) (HSS.out.step hbA)
        refine Reg.Steps.zip ?_ ?_
        · refine Reg.step_on rfl (fun u w h => h.plain rfl) ?_
          intro a wi ki hf hd hS hc K hK
          have e26 : a.tmps.getD 26 undef = .int .i64 n := hd.1.plain rfl
          have e30 : a.tmps.getD 30 undef = .int .i64 p := hd.2.1.plain rfl
          clear hf hd hc
          have hbl := HBL.out
          have hK0 := Lib.hid hK; clear hK
          have hS0 := Lib.hid hS; clear hS
          go_simp
          exact hK0.out _ _ (Reg.Known.mk_val rfl rfl) (fun _ _ h => h) hS0.out
        refine Reg.Steps.zip ?_ ?_
        · refine Reg.step_go rfl ?_
          intro a wi ki hf hd hS hc K hK
          have e22 : a.tmps.getD 22 undef = .bool true := hd.1.plain rfl
          have e31 : a.tmps.getD 31 undef = .bool bl := hd.2.1.plain rfl
          clear hf hd hc
          have hK0 := Lib.hid hK; clear hK
          have hS0 := Lib.hid hS; clear hS
          go_simp
          exact hK0.out _ _ (Reg.Known.mk_val rfl rfl) (fun _ _ h => h) hS0.out
        refine Reg.Steps.zip ?_ ?_
        · refine Reg.step_go rfl ?_
          intro a wi ki hf hd hS hc K hK
          have e32 : a.tmps.getD 32 undef = .bool bl := hd.1.plain rfl
          clear hf hd hc
          have hK0 := Lib.hid hK; clear hK
          have hS0 := Lib.hid hS; clear hS
          go_simp
          exact hK0.out _ _ (Reg.Known.mk_val rfl rfl) (fun _ _ h => h) hS0.out
        exact Reg.Steps.nil
      case finish =>
        intro a w8 hf hd hS
        have f2 : a.tmps.getD 2 undef = .bool bl := hd.1.plain rfl
        have hd0 : a.defers = [] := hf.defers
        go_wp2_with fail
        refine bodyPost_ret (results_tmp rfl _ _ _) hd0 ⟨by rw [f2]; simp, hS.bl⟩
    | false =>
      refine Reg.wp_facts_sl [21, 22, 23, 24, 25, 26, 27, 28, 29, 30, 31, 32, 2] rfl [] [[], [(0, 21)], [], [(2, 23)], [(3, 24)], [(4, 25)], [], [(6, 27)], [(7, 28)], [(8, 29)], [(5, 26), (9, 30)], [(1, 22), (10, 31)], [(11, 32)]] [(12, 2)] (Reg.Known (rifVal A n c w.heap.size op p bl) (fun _ _ _ => True) []) (fun _ w' => St0 w t (.slice A n c) op x w') (by kernel_rfl) (by kernel_rfl) ?start ?steps ?finish
      case start => exact HCT.out.step (Below.refl _ _).drew
      case steps =>
        refine Reg.Steps.zip ?_ ?_
        · refine Reg.step_go rfl ?_
          intro a wi ki hf hd hS hc K hK
          have f3 : a.tmps.getD 3 undef = .bool false := hf.same 3 rfl
          clear hf hd hc
          have hK0 := Lib.hid hK; clear hK
          have hS0 := Lib.hid hS; clear hS
          go_simp
          exact hK0.out _ _ (Reg.Known.mk_val rfl rfl) (fun _ _ h => h) hS0.out
        refine Reg.Steps.zip ?_ ?_
        · refine Reg.step_go rfl ?_
          intro a wi ki hf hd hS hc K hK
          have e21 : a.tmps.getD 21 undef = .bool false := hd.1.plain rfl
          clear hf hd hc
          have hK0 := Lib.hid hK; clear hK
          have hS0 := Lib.hid hS; clear hS
          go_simp
          exact hK0.out _ _ (Reg.Known.mk_val rfl rfl) (fun _ _ h => h) hS0.out
        refine Reg.Steps.zip ?_ ?_
        · exact Reg.step_off rfl (fun u w h => h.plain rfl) (fun w => Reg.Known.mk_val rfl rfl) rfl
        refine Reg.Steps.zip ?_ ?_
        · exact Reg.step_off rfl (fun u w h => h.plain rfl) (fun w => Reg.Known.mk_val rfl rfl) rfl
        refine Reg.Steps.zip ?_ ?_
        · exact Reg.step_off rfl (fun u w h => h.plain rfl) (fun w => Reg.Known.mk_val rfl rfl) rfl
        refine Reg.Steps.zip ?_ ?_
        · exact Reg.step_off rfl (fun u w h => h.plain rfl) (fun w => Reg.Known.mk_val rfl rfl) rfl
        refine Reg.Steps.zip ?_ ?_
        · exact Reg.step_off rfl (fun u w h => h.plain rfl) (fun w => Reg.Known.mk_val rfl rfl) rfl
        refine Reg.Steps.zip ?_ ?_
        · exact Reg.step_off rfl (fun u w h => h.plain rfl) (fun w => Reg.Known.mk_val rfl rfl) rfl
        refine Reg.Steps.zip ?_ ?_
        · exact Reg.step_off rfl (fun u w h => h.plain rfl) (fun w => Reg.Known.mk_val rfl rfl) rfl
        refine Reg.Steps.zip ?_ ?_
        · exact Reg.step_off rfl (fun u w h => h.plain rfl) (fun w => Reg.Known.mk_val rfl rfl) rfl
        refine Reg.Steps.zip ?_ ?_
        · exact Reg.step_off rfl (fun u w h => h.plain rfl) (fun w => Reg.Known.mk_val rfl rfl) rfl
        refine Reg.Steps.zip ?_ ?_
        · refine Reg.step_go rfl ?_
          intro a wi ki hf hd hS hc K hK
          have e22 : a.tmps.getD 22 undef = .bool false := hd.1.plain rfl
          have e31 : a.tmps.getD 31 undef = undef := hd.2.1.plain rfl
          clear hf hd hc
          have hK0 := Lib.hid hK; clear hK
          have hS0 := Lib.hid hS; clear hS
          go_simp
          exact hK0.out _ _ (Reg.Known.mk_val rfl rfl) (fun _ _ h => h) hS0.out
        refine Reg.Steps.zip ?_ ?_
        · refine Reg.step_go rfl ?_
          intro a wi ki hf hd hS hc K hK
          have e32 : a.tmps.getD 32 undef = .bool false := hd.1.plain rfl
          clear hf hd hc
          have hK0 := Lib.hid hK; clear hK
          have hS0 := Lib.hid hS; clear hS
          go_simp
          exact hK0.out _ _ (Reg.Known.mk_val rfl rfl) (fun _ _ h => h) hS0.out
        exact Reg.Steps.nil
      case finish =>
        intro a w8 hf hd hS
        have f2 : a.tmps.getD 2 undef = .bool false := hd.1.plain rfl
        have hd0 : a.defers = [] := hf.defers
        go_wp2_with fail
        refine bodyPost_ret (results_tmp rfl _ _ _) hd0 ⟨by rw [f2]; simp, hS.bl⟩

end Go.Proofs.Ytjnlgmjcabbaaaa
