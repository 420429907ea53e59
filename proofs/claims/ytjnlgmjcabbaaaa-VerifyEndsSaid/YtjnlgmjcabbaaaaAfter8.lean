/- The walks of after and next: the depth behind an instruction, and what it leads to. (Drawn: af2.json.) -/
import Derived.Test.YtjnlgmjcabbaaaaReach8
namespace Go.Proofs.Ytjnlgmjcabbaaaa
set_option maxRecDepth 100000
open Go.RowKit

structure StA (w0 : World) (m : Dims) (s : Fl) (wv : Value) (k : Nat) (w : World) : Prop where
  fl : FlowS w m s wv
  b : Below w0.heap.size w0 w
theorem StA.step {w0 w w' : World} {m : Dims} {s : Fl} {wv : Value} {k : Nat} (h : StA w0 m s wv k w) (hb : Below w.heap.size w w') : StA w0 m s wv k w' := ⟨h.fl.below hb, nextB h.b hb⟩
theorem popsZ_range (op : Int) : 0 ≤ popsZ op ∧ popsZ op ≤ 2 := by
  unfold popsZ
  split
  · omega
  · split <;> omega
theorem pushesZ_range (op : Int) : 0 ≤ pushesZ op ∧ pushesZ op ≤ 2 := by
  unfold pushesZ
  split
  · omega
  · split <;> omega

def af2Val (gg gdd n capp k : Nat) (op x p l : Int) : Nat → Value
  | 0 => .pointer (some ⟨gg, 0, none⟩)
  | 1 => .pointer (some ⟨gg, 0, none⟩)
  | 2 => .pointer (some ⟨gg, 1, none⟩)
  | 3 => .slice (some ⟨gdd, 0, none⟩) n capp
  | 4 => .int .i64 k
  | 5 => .pointer (some ⟨gdd, k, none⟩)
  | 6 => .int .i64 x
  | 7 => .int .i64 op
  | 8 => .int .i64 p
  | 9 => .int .i64 l
  | 10 => .int .i64 l
  | _ => undef


set_option maxRecDepth 100000 in
set_option maxHeartbeats 8000000 in
theorem after_any (f : CodeL) (m : Dims) (s : Fl) (k : Nat) (w : World) (hf : FlowM w m s) (hr : RowI w m.lo m.cv f) (hn : f.length = m.n) (hk : k < m.n) (hn2 : m.n ≤ 100000) (hD : -1000 ≤ s.D.getD k 0 ∧ s.D.getD k 0 ≤ 1000) :
    Calls Try.prog 80 #[.pointer (some ⟨m.g, 0, none⟩), .int .i64 k] w fun e w' =>
      e = .returned (.tuple #[.int .i64 (depthZ f s k), .bool (fitsB f s k)]) ∧ Below w.heap.size w w' := by
  obtain ⟨wv, hf⟩ := hf
  obtain ⟨b, off, c, hcv, hbb, i0, i1⟩ := hr.cells (k := k) (by rw [hn]; exact hk)
  rw [hn] at hcv
  have c0 := hf.c0; rw [hcv] at c0
  obtain ⟨op, hop⟩ : ∃ z, cop f k = z := ⟨_, rfl⟩
  obtain ⟨x, hx⟩ : ∃ z, s.D.getD k 0 = z := ⟨_, rfl⟩
  obtain ⟨p, hp⟩ : ∃ z, popsZ op = z := ⟨_, rfl⟩
  obtain ⟨q, hq⟩ : ∃ z, pushesZ op = z := ⟨_, rfl⟩
  obtain ⟨l, hl⟩ : ∃ z, x - p = z := ⟨_, rfl⟩
  obtain ⟨d, hd⟩ : ∃ z, l + q = z := ⟨_, rfl⟩
  have E1 : Hid (depthZ f s k = d) := Lib.hid (by unfold depthZ leftZ; rw [hop, hx, hp, hq, hl, hd])
  have E2 : Hid (fitsB f s k = (decide (0 ≤ l) && decide (d ≤ 32))) := Lib.hid (by unfold fitsB; rw [E1.out]; unfold leftZ; rw [hop, hx, hp, hl])
  rw [hop] at i0; rw [hx] at hD
  have pr := popsZ_range op; rw [hp] at pr
  have qr := pushesZ_range op; rw [hq] at qr
  have HW := Lib.hid (show IntKind.i64.wrap (x - p) = l by rw [hl]; exact IntWalk.i64_in _ (by omega))
  have HW2 := Lib.hid (show wrap64 (l + q) = d by unfold wrap64; omega)
  have HP : Hid (∀ w, Calls Try.prog 89 #[.int .i64 op] w fun e w' => e = .returned (.int .i64 p) ∧ Below w.heap.size w w') := Lib.hid fun w => by rw [← hp]; exact pops_any op w
  have HQ : Hid (∀ w, Calls Try.prog 112 #[.int .i64 op] w fun e w' => e = .returned (.int .i64 q) ∧ Below w.heap.size w w') := Lib.hid fun w => by rw [← hq]; exact pushes_any op w
  have HX := Lib.hid hx; have HKL := Lib.hid hk
  have HST : Hid (StA w m s wv 0 w) := Lib.hid ⟨hf, Below.refl _ _⟩
  obtain ⟨n, hnn⟩ : ∃ n, m.n = n := ⟨_, rfl⟩
  rw [hnn] at c0 hk
  have HNN := Lib.hid hnn; have HK := Lib.hid (show (k : Int) < (n : Int) by omega)
  clear hf hr hn hcv hbb i1 hop hx hp hq hl hd hD pr qr hnn hn2
  go_enter Try.func80, Try.ntmps80
  go_upto_region 2 with (fail)
  refine Reg.wp_facts_sl [17, 18, 19, 20, 21, 22, 23, 24, 25, 26, 7] rfl [] [[], [(0, 17)], [(1, 18)], [(2, 19)], [], [(3, 20), (4, 21)], [(5, 22)], [], [(7, 24)], [(6, 23), (8, 25)], [(9, 26)]] [(10, 7)] (Reg.Known (af2Val m.g m.gd n m.cap k op x p l) (fun _ _ _ => True) []) (StA w m s wv) (by kernel_rfl) (by kernel_rfl) ?start ?steps ?finish
  case start => exact HST.out.step (Below.refl _ _).drew
  case steps =>
    refine Reg.Steps.zip ?_ ?_
    · refine Reg.step_go rfl ?_
      intro a wi ki hf hd hS hc K hK
      have f0 : a.tmps.getD 0 undef = .pointer (some ⟨m.g, 0, none⟩) := hf.same 0 rfl
      clear hf hd hc
      have hK0 := Lib.hid hK; clear hK
      have hS0 := Lib.hid hS; clear hS
      go_simp
      exact hK0.out _ _ (Reg.Known.mk_val rfl rfl) (fun _ _ h => h) hS0.out
    refine Reg.Steps.zip ?_ ?_
    · refine Reg.step_go rfl ?_
      intro a wi ki hf hd hS hc K hK
      have e17 : a.tmps.getD 17 undef = .pointer (some ⟨m.g, 0, none⟩) := hd.1.plain rfl
      clear hf hd hc
      have hK0 := Lib.hid hK; clear hK
      have hS0 := Lib.hid hS; clear hS
      go_simp
      exact hK0.out _ _ (Reg.Known.mk_val rfl rfl) (fun _ _ h => h) hS0.out
    refine Reg.Steps.zip ?_ ?_
    · refine Reg.step_go rfl ?_
      intro a wi ki hf hd hS hc K hK
      have e18 : a.tmps.getD 18 undef = .pointer (some ⟨m.g, 0, none⟩) := hd.1.plain rfl
      clear hf hd hc
      have hK0 := Lib.hid hK; clear hK
      have hS0 := Lib.hid hS; clear hS
      go_simp
      exact hK0.out _ _ (Reg.Known.mk_val rfl rfl) (fun _ _ h => h) hS0.out
    refine Reg.Steps.zip ?_ ?_
    · refine Reg.step_go rfl ?_
      intro a wi ki hf hd hS hc K hK
      have e19 : a.tmps.getD 19 undef = .pointer (some ⟨m.g, 1, none⟩) := hd.1.plain rfl
      clear hf hd hc
      have c1 := hS.fl.c1
      rw [HNN.out] at c1
      have hK0 := Lib.hid hK; clear hK
      have hS0 := Lib.hid hS; clear hS
      go_simp
      exact hK0.out _ _ (Reg.Known.mk_val rfl rfl) (fun _ _ h => h) hS0.out
    refine Reg.Steps.zip ?_ ?_
    · refine Reg.step_go rfl ?_
      intro a wi ki hf hd hS hc K hK
      have f1 : a.tmps.getD 1 undef = .int .i64 k := hf.same 1 rfl
      clear hf hd hc
      have hK0 := Lib.hid hK; clear hK
      have hS0 := Lib.hid hS; clear hS
      go_simp
      exact hK0.out _ _ (Reg.Known.mk_val rfl rfl) (fun _ _ h => h) hS0.out
    refine Reg.Steps.zip ?_ ?_
    · refine Reg.step_go rfl ?_
      intro a wi ki hf hd hS hc K hK
      have e20 : a.tmps.getD 20 undef = .slice (some ⟨m.gd, 0, none⟩) n m.cap := hd.1.plain rfl
      have e21 : a.tmps.getD 21 undef = .int .i64 k := hd.2.1.plain rfl
      clear hf hd hc
      have ck := HK.out
      have hK0 := Lib.hid hK; clear hK
      have hS0 := Lib.hid hS; clear hS
      go_simp
      exact hK0.out _ _ (Reg.Known.mk_val rfl rfl) (fun _ _ h => h) hS0.out
    refine Reg.Steps.zip ?_ ?_
    · refine Reg.step_go rfl ?_
      intro a wi ki hf hd hS hc K hK
      have e22 : a.tmps.getD 22 undef = .pointer (some ⟨m.gd, k, none⟩) := hd.1.plain rfl
      clear hf hd hc
      have cd := hS.fl.cd HKL.out
      rw [HX.out] at cd
      have hK0 := Lib.hid hK; clear hK
      have hS0 := Lib.hid hS; clear hS
      go_simp
      exact hK0.out _ _ (Reg.Known.mk_val rfl rfl) (fun _ _ h => h) hS0.out
    refine Reg.Steps.zip ?_ ?_
    · refine Reg.step_go rfl ?_
      intro a wi ki hf hd hS hc K hK
      have f6 : a.tmps.getD 6 undef = .int .i64 op := hf.same 6 rfl
      clear hf hd hc
      have hK0 := Lib.hid hK; clear hK
      have hS0 := Lib.hid hS; clear hS
      go_simp
      exact hK0.out _ _ (Reg.Known.mk_val rfl rfl) (fun _ _ h => h) hS0.out
    refine Reg.Steps.zip ?_ ?_
    · refine Reg.step_go rfl ?_
      intro a wi ki hf hd hS hc K hK
      have e24 : a.tmps.getD 24 undef = .int .i64 op := hd.1.plain rfl
      clear hf hd
      have HS := Lib.hid hS; clear hS
      have hK0 := Lib.hid hK; clear hK hc
      go_simp
      refine (HP.out wi).mono ?_
      rintro e wA ⟨rfl, hbA⟩
      exact hK0.out _ _ (Reg.Known.mk_val rfl rfl) (fun _ _ h => known_any' h) (HS.out.step hbA)
    refine Reg.Steps.zip ?_ ?_
    · refine Reg.step_go rfl ?_
      intro a wi ki hf hd hS hc K hK
      have e23 : a.tmps.getD 23 undef = .int .i64 x := hd.1.plain rfl
      have e25 : a.tmps.getD 25 undef = .int .i64 p := hd.2.1.plain rfl
      clear hf hd hc
      have cw := HW.out
      have hK0 := Lib.hid hK; clear hK
      have hS0 := Lib.hid hS; clear hS
      go_simp
      exact hK0.out _ _ (Reg.Known.mk_val rfl rfl) (fun _ _ h => h) hS0.out
    refine Reg.Steps.zip ?_ ?_
    · refine Reg.step_go rfl ?_
      intro a wi ki hf hd hS hc K hK
      have e26 : a.tmps.getD 26 undef = .int .i64 l := hd.1.plain rfl
      clear hf hd hc
      have hK0 := Lib.hid hK; clear hK
      have hS0 := Lib.hid hS; clear hS
      go_simp
      exact hK0.out _ _ (Reg.Known.mk_val rfl rfl) (fun _ _ h => h) hS0.out
    exact Reg.Steps.nil
  case finish =>
    intro a w8 hf hd hS
    have HS8 := Lib.hid hS; clear hS
    obtain ⟨u, hu⟩ : ∃ u : Nat → Value, u = fun s => a.tmps.getD s undef := ⟨_, rfl⟩
    have e7 : u 7 = .int .i64 l := by rw [hu]; exact hd.1.plain rfl
    rw [hf.eq, ← hu]
    clear hf hu hd
    simp (config := { maxSteps := 10000000 }) [Reg.filled, e7]
    clear e7
    go_wp2_with fail
    refine (HQ.out w8).mono ?_
    rintro e w9 ⟨rfl, hb⟩
    have B9 := Lib.hid (nextB HS8.out.b hb); clear hb
    have hw2 := HW2.out
    by_cases h1 : 0 ≤ l
    · have d1 : decide (0 ≤ l) = true := decide_eq_true h1
      cases hd2 : decide (d ≤ 32)
      all_goals go_wp2_with fail
      all_goals go_ret2
      all_goals rw [E1.out, E2.out, d1, hd2, hw2]
      all_goals exact ⟨rfl, B9.out⟩
    · have d1 : decide (0 ≤ l) = false := decide_eq_false h1
      go_wp2_with fail
      go_ret2
      rw [E1.out, E2.out, d1, hw2]
      exact ⟨rfl, B9.out⟩

end Go.Proofs.Ytjnlgmjcabbaaaa
