/- AuditTells returns true for every input and changes nothing: Right, Put, All and Of return the documented results for arbitrary, valid and modified lists. No condition. -/
import Derived.Test.YtmcphlklknfbmaaMg22
import Derived.Deep.DeepCutAuto
import Derived.Deep.CutRange
namespace Go.Proofs.Ytmcphlklknfbmaa.auditTells
set_option maxRecDepth 100000
open Go.RowKit Go.WideShapes Go.ChangeShapes Go.ChangeAt

def at31Val (ga nz cz n4 c4 c5 : Nat) (Az A4 A5 : Option Addr) (rb : Bool) (ST : ByteArray) : Nat → Value
  | 0 => .slice Az nz cz
  | 1 => .bool rb
  | 2 => .slice Az nz cz
  | 3 => .bool rb
  | 4 => .bool false
  | 5 => .bool false
  | 6 => .slice Az nz cz
  | 8 => .string ST
  | 9 => .slice Az nz cz
  | 11 => .string ST
  | 12 => .bool false
  | 13 => .bool false
  | 14 => .bool false
  | 15 => .pointer (some ⟨ga, 0, none⟩)
  | 17 => .slice Az nz cz
  | 18 => .bool true
  | 19 => .bool false
  | 20 => .bool false
  | 21 => .bool false
  | 22 => .pointer (some ⟨ga, 0, none⟩)
  | 23 => .slice A4 n4 c4
  | 25 => .slice Az nz cz
  | 26 => .slice A4 n4 c4
  | 28 => .bool true
  | 29 => .bool false
  | 30 => .bool false
  | 31 => .bool false
  | 32 => .pointer (some ⟨ga, 0, none⟩)
  | 33 => .slice A5 n4 c5
  | 35 => .slice Az nz cz
  | 36 => .slice A5 n4 c5
  | 38 => .bool true
  | 39 => .bool false
  | 40 => .bool false
  | _ => undef

def sw10Val (g n c i : Nat) : Nat → Value
  | 0 => .slice (some ⟨g, 0, none⟩) n c
  | 1 => .slice (some ⟨g, 0, none⟩) n c
  | 2 => .int .i64 i
  | 3 => .slice (some ⟨g, 0, none⟩) n c
  | 4 => .int .i64 i
  | 5 => .pointer (some ⟨g, i * 6, none⟩)
  | 7 => .slice (some ⟨g, 0, none⟩) n c
  | 8 => .pointer (some ⟨g, 0, none⟩)
  | 10 => .pointer (some ⟨g, 0, none⟩)
  | 11 => undef
  | 12 => .pointer (some ⟨g, i * 6, none⟩)
  | 13 => undef
  | _ => undef

set_option maxRecDepth 100000 in
set_option maxHeartbeats 16000000 in
theorem walk {w : World} {v0 v1 v4 : Value} {P Q : List (List Int)} {ts : List Int} (k wh : Nat) (v : Int) (h0 : RowsV recK w w.heap.size v0 P) (h1 : RowsV [.u8, .u8, .u8, .u8] w w.heap.size v1 Q) (h4 : IntsV w w.heap.size v4 ts) (hk : k ≤ 255) (hwh : wh ≤ 255) (hv : -9223372036854775808 ≤ v ∧ v ≤ 9223372036854775807) :
    Calls Try.prog 8 #[v0, v1, .int .u8 k, .int .u8 wh, v4, .int .i64 v] w fun e w' => e = .returned (.bool true) ∧ Below w.heap.size w w' := by
  have HP := Lib.hid h0; have HQ := Lib.hid h1; have HT := Lib.hid h4
  obtain ⟨A0, c0, e0, hj1, hj2, hj3⟩ := h0
  obtain ⟨A1, c1, e1, hj4, hj5, hj6⟩ := h1
  obtain ⟨A4, c4, e4, hj7⟩ := h4
  clear hj1 hj2 hj3 hj4 hj5 hj6 hj7
  obtain ⟨n0, hn0⟩ : ∃ n, P.length = n := ⟨_, rfl⟩
  obtain ⟨n, hn⟩ : ∃ n, Q.length = n := ⟨_, rfl⟩
  obtain ⟨n4, hn4⟩ : ∃ n, ts.length = n := ⟨_, rfl⟩
  rw [hn0] at e0
  rw [hn] at e1
  rw [hn4] at e4
  subst e0 e1 e4
  have HL0 := Lib.hid hn0; have HLQ := Lib.hid hn; have HL4 := Lib.hid hn4
  clear hn0 hn hn4
  by_cases m0 : n0 ≤ 20
  case neg =>
    have g0 : (20 : Int) < (n0 : Int) := by omega
    clear m0
    go_enter Try.func8, Try.ntmps8
    go_wp2_with fail
    refine (known22_any w).mono ?_
    rintro e w1 ⟨rfl, hb1⟩
    have HB1 := Lib.hid hb1
    clear hb1
    go_wp2_with fail
    go_ret
    exact ⟨rfl, HB1.out⟩
  by_cases m1 : n ≤ 30
  case neg =>
    have g0 : ¬ ((20 : Int) < (n0 : Int)) := by omega
    have g1 : (30 : Int) < (n : Int) := by omega
    clear m0 m1
    go_enter Try.func8, Try.ntmps8
    go_wp2_with fail
    refine (known22_any w).mono ?_
    rintro e w1 ⟨rfl, hb1⟩
    have HB1 := Lib.hid hb1
    clear hb1
    go_wp2_with fail
    go_ret
    exact ⟨rfl, HB1.out⟩
  by_cases m4 : n4 ≤ 8
  case neg =>
    have g0 : ¬ ((20 : Int) < (n0 : Int)) := by omega
    have g1 : ¬ ((30 : Int) < (n : Int)) := by omega
    have g4 : (8 : Int) < (n4 : Int) := by omega
    clear m0 m1 m4
    go_enter Try.func8, Try.ntmps8
    go_wp2_with fail
    refine (known22_any w).mono ?_
    rintro e w1 ⟨rfl, hb1⟩
    have HB1 := Lib.hid hb1
    clear hb1
    go_wp2_with fail
    go_ret
    exact ⟨rfl, HB1.out⟩
  have g0 : ¬ ((20 : Int) < (n0 : Int)) := by omega
  have g1 : ¬ ((30 : Int) < (n : Int)) := by omega
  have g4 : ¬ ((8 : Int) < (n4 : Int)) := by omega
  have HM0 := Lib.hid m0; have HM1 := Lib.hid m1; have HM4 := Lib.hid m4
  clear m0 m1 m4
  have hsg := smG_of (P := Q) (by obtain ⟨_, _, _, _, _, h⟩ := HQ.out; exact h) (by have := HM1.out; rw [HLQ.out]; omega)
  obtain ⟨L, hL⟩ : ∃ L, (smL Q).1 = L := ⟨_, rfl⟩
  have hlen := hsg.len; have hright := hsg.right; have hok := hsg.ok
  rw [hL] at hlen hright hok
  rw [HLQ.out] at hlen
  have HLL := Lib.hid hlen; have HRG := Lib.hid hright; have HOK := Lib.hid hok; have HL := Lib.hid hL
  clear hsg hlen hright hok hL
  go_enter Try.func8, Try.ntmps8
  go_wp2_with fail
  refine (known22_any w).mono ?_
  rintro e w1 ⟨rfl, hb1⟩
  have HSO := Lib.hid (some22_any ((HQ.out.below hb1).more hb1.size) (by have := HM1.out; rw [HLQ.out]; omega))
  rw [HL.out] at HSO
  have HB1 := Lib.hid hb1
  clear hb1
  go_wp2_with fail
  refine HSO.out.mono ?_
  rintro e w2 ⟨v2, rfl, o2, b2⟩
  obtain ⟨A2, c2, e2⟩ := o2.shape
  rw [HLL.out] at e2
  subst e2
  have HRX := Lib.hid o2.rc
  have HB2 := Lib.hid (nextB HB1.out b2)
  clear o2 b2 g0 g1 g4
  have hm1 := HM1.out
  go_wp2_with (at_builtin; go_must (refine append_rcs rfl _ _ rfl w2.heap.size (.slice none 0 0) [] rfl (OwnR.nil _ _) (.slice A2 n c2) L rfl HRX.out ?c1 (Nat.le_refl _) ?_))
  case c1 => rw [HLL.out]; simp; omega
  intro v3 w3 o3 g3 b3
  have o3' : OwnR w3 w2.heap.size v3 L := o3
  have HO3 := Lib.hid o3'
  have HB3 : Hid (Below w2.heap.size w2 w3) := Lib.hid ((Below.refl _ _).grown g3 (Nat.le_refl _) (fun k e => by cases e))
  obtain ⟨A3, c3, e3⟩ := o3'.shape
  rw [HLL.out] at e3
  subst e3
  clear o3 o3' g3 b3
  go_upto_if 42 with (fail)
  go_cut [15] from 42 to 98 (fun _ wx => ∃ Ly, OwnR wx w2.heap.size (.slice A3 n c3) Ly ∧ Ly.length = n ∧ (∀ x ∈ Ly, RcOk x) ∧ Below w2.heap.size w2 wx)
  case first =>
    by_cases hn0 : 0 < n
    · have i0 : (0 : Int) < (n : Int) := by omega
      have i0' : decide ((0 : Int) < (n : Int)) = true := decide_eq_true i0
      obtain ⟨g, hg2, hgc⟩ : ∃ g, A3 = some ⟨g, 0, none⟩ ∧ w2.heap.size ≤ g := by
        have h5 := HO3.out
        unfold OwnR at h5
        rw [HLL.out] at h5
        obtain ⟨g, cap, e, hb, _⟩ := World.ownsRow.form h5 hn0
        injection e with e1 _ _
        exact ⟨g, e1, hb⟩
      subst hg2
      obtain ⟨i, hi⟩ : ∃ i : Nat, k % n = i := ⟨_, rfl⟩
      have hil : i < n := by rw [← hi]; exact Nat.mod_lt _ hn0
      have hik : (k : Int) % (n : Int) = (i : Int) := by rw [← hi]; omega
      clear hi
      go_upto_region 9 with (fail)
      try rw [hik]
      clear hik
      have hil2 : i < L.length := by rw [HLL.out]; exact hil
      have hie : (0 : Int) ≤ (i : Int) ∧ (i : Int) < (n : Int) := by omega
      have htw : (wh : Int) % 6 = 0 ∨ (wh : Int) % 6 = 1 ∨ (wh : Int) % 6 = 2 ∨ (wh : Int) % 6 = 3 ∨ (wh : Int) % 6 = 4 ∨ (wh : Int) % 6 = 5 := by omega
      rcases htw with em | em | em | em | em | em
      · have hst := HO3.out.setF (i := i) (f := 0) (x' := ⟨v, L[i].gt, L[i].tt, L[i].vl, L[i].rd, L[i].bb⟩) (u := .int .i64 (v)) HLL.out hil2 (by decide) rfl
        have hx := HOK.out L[i] (List.getElem_mem hil2)
        have hfin : Hid (∃ Ly, OwnR (w3.setCell ⟨g, i * 6, none⟩ (.int .i64 (v))) w2.heap.size (.slice (some ⟨g, 0, none⟩) n c3) Ly ∧ Ly.length = n ∧ (∀ x ∈ Ly, RcOk x) ∧ Below w2.heap.size w2 (w3.setCell ⟨g, i * 6, none⟩ (.int .i64 (v)))) := Lib.hid ⟨_, hst.1, by rw [List.length_set]; exact HLL.out, rc_all_set HOK.out ⟨⟨hv.1, hv.2⟩, hx.2.1, hx.2.2.1, hx.2.2.2.1, hx.2.2.2.2.1, hx.2.2.2.2.2⟩, HB3.out.grown hst.2 HB3.out.size (fun k e => by injection e with e; omega)⟩
        have cf := (HO3.out.cellF (i := i) (f := 0) HLL.out hil2 rfl).1
        have ff := (HO3.out.cellF (i := i) (f := 0) (u := .int .i64 (L[i].sq)) HLL.out hil2 rfl).2
        simp only [Nat.add_zero] at cf ff
        generalize L[i].sq = old at cf ff
        clear hst hx
        go_wp2_with fail
        go_meet
        exact hfin.out
      · have hst := HO3.out.setF (i := i) (f := 1) (x' := ⟨L[i].sq, v, L[i].tt, L[i].vl, L[i].rd, L[i].bb⟩) (u := .int .i64 (v)) HLL.out hil2 (by decide) rfl
        have hx := HOK.out L[i] (List.getElem_mem hil2)
        have hfin : Hid (∃ Ly, OwnR (w3.setCell ⟨g, i * 6 + 1, none⟩ (.int .i64 (v))) w2.heap.size (.slice (some ⟨g, 0, none⟩) n c3) Ly ∧ Ly.length = n ∧ (∀ x ∈ Ly, RcOk x) ∧ Below w2.heap.size w2 (w3.setCell ⟨g, i * 6 + 1, none⟩ (.int .i64 (v)))) := Lib.hid ⟨_, hst.1, by rw [List.length_set]; exact HLL.out, rc_all_set HOK.out ⟨hx.1, ⟨hv.1, hv.2⟩, hx.2.2.1, hx.2.2.2.1, hx.2.2.2.2.1, hx.2.2.2.2.2⟩, HB3.out.grown hst.2 HB3.out.size (fun k e => by injection e with e; omega)⟩
        have cf := (HO3.out.cellF (i := i) (f := 1) HLL.out hil2 rfl).1
        have ff := (HO3.out.cellF (i := i) (f := 1) (u := .int .i64 (L[i].gt)) HLL.out hil2 rfl).2
        skip
        generalize L[i].gt = old at cf ff
        clear hst hx
        go_wp2_with fail
        go_meet
        exact hfin.out
      · have hst := HO3.out.setF (i := i) (f := 2) (x' := ⟨L[i].sq, L[i].gt, bits .and .i64 v 3, L[i].vl, L[i].rd, L[i].bb⟩) (u := .int .i64 (bits .and .i64 v 3)) HLL.out hil2 (by decide) rfl
        have hx := HOK.out L[i] (List.getElem_mem hil2)
        have hfin : Hid (∃ Ly, OwnR (w3.setCell ⟨g, i * 6 + 2, none⟩ (.int .i64 (bits .and .i64 v 3))) w2.heap.size (.slice (some ⟨g, 0, none⟩) n c3) Ly ∧ Ly.length = n ∧ (∀ x ∈ Ly, RcOk x) ∧ Below w2.heap.size w2 (w3.setCell ⟨g, i * 6 + 2, none⟩ (.int .i64 (bits .and .i64 v 3)))) := Lib.hid ⟨_, hst.1, by rw [List.length_set]; exact HLL.out, rc_all_set HOK.out ⟨hx.1, hx.2.1, by dsimp only; unfold I64; rw [i64_and3]; omega, hx.2.2.2.1, hx.2.2.2.2.1, hx.2.2.2.2.2⟩, HB3.out.grown hst.2 HB3.out.size (fun k e => by injection e with e; omega)⟩
        have cf := (HO3.out.cellF (i := i) (f := 2) HLL.out hil2 rfl).1
        have ff := (HO3.out.cellF (i := i) (f := 2) (u := .int .i64 (L[i].tt)) HLL.out hil2 rfl).2
        skip
        generalize L[i].tt = old at cf ff
        clear hst hx
        go_wp2_with fail
        go_meet
        exact hfin.out
      · have hst := HO3.out.setF (i := i) (f := 4) (x' := ⟨L[i].sq, L[i].gt, L[i].tt, L[i].vl, v, L[i].bb⟩) (u := .int .i64 (v)) HLL.out hil2 (by decide) rfl
        have hx := HOK.out L[i] (List.getElem_mem hil2)
        have hfin : Hid (∃ Ly, OwnR (w3.setCell ⟨g, i * 6 + 4, none⟩ (.int .i64 (v))) w2.heap.size (.slice (some ⟨g, 0, none⟩) n c3) Ly ∧ Ly.length = n ∧ (∀ x ∈ Ly, RcOk x) ∧ Below w2.heap.size w2 (w3.setCell ⟨g, i * 6 + 4, none⟩ (.int .i64 (v)))) := Lib.hid ⟨_, hst.1, by rw [List.length_set]; exact HLL.out, rc_all_set HOK.out ⟨hx.1, hx.2.1, hx.2.2.1, hx.2.2.2.1, ⟨hv.1, hv.2⟩, hx.2.2.2.2.2⟩, HB3.out.grown hst.2 HB3.out.size (fun k e => by injection e with e; omega)⟩
        have cf := (HO3.out.cellF (i := i) (f := 4) HLL.out hil2 rfl).1
        have ff := (HO3.out.cellF (i := i) (f := 4) (u := .int .i64 (L[i].rd)) HLL.out hil2 rfl).2
        skip
        generalize L[i].rd = old at cf ff
        clear hst hx
        go_wp2_with fail
        go_meet
        exact hfin.out
      · have hst := HO3.out.setF (i := i) (f := 5) (x' := ⟨L[i].sq, L[i].gt, L[i].tt, L[i].vl, L[i].rd, wrap32 v⟩) (u := .int .i32 (wrap32 v)) HLL.out hil2 (by decide) rfl
        have hx := HOK.out L[i] (List.getElem_mem hil2)
        have hfin : Hid (∃ Ly, OwnR (w3.setCell ⟨g, i * 6 + 5, none⟩ (.int .i32 (wrap32 v))) w2.heap.size (.slice (some ⟨g, 0, none⟩) n c3) Ly ∧ Ly.length = n ∧ (∀ x ∈ Ly, RcOk x) ∧ Below w2.heap.size w2 (w3.setCell ⟨g, i * 6 + 5, none⟩ (.int .i32 (wrap32 v)))) := Lib.hid ⟨_, hst.1, by rw [List.length_set]; exact HLL.out, rc_all_set HOK.out ⟨hx.1, hx.2.1, hx.2.2.1, hx.2.2.2.1, hx.2.2.2.2.1, by dsimp only; unfold wrap32; omega⟩, HB3.out.grown hst.2 HB3.out.size (fun k e => by injection e with e; omega)⟩
        have cf := (HO3.out.cellF (i := i) (f := 5) HLL.out hil2 rfl).1
        have ff := (HO3.out.cellF (i := i) (f := 5) (u := .int .i32 (L[i].bb)) HLL.out hil2 rfl).2
        skip
        generalize L[i].bb = old at cf ff
        clear hst hx
        go_wp2_with fail
        go_meet
        exact hfin.out
      · have HYS : Hid (YS w2 g n c3 w3.drew) := Lib.hid (YS.drew ⟨L, HO3.out, HLL.out, HOK.out, HB3.out⟩)
        clear HO3 HB3
        go_upto_region 10 with (fail)
        refine Reg.wp_facts_sl [50, 51, 52, 53, 54, 55, 56, 57, 58, 59, 60, 61] rfl [] [[], [], [], [], [], [(3, 53), (4, 54)], [(5, 55)], [], [(7, 57)], [(8, 58)], [(0, 50)], [(10, 60), (6, 56)], [(1, 51), (2, 52)], [(12, 61), (9, 59)]] [] (Reg.Known (sw10Val g n c3 i) (fun _ v _ => RecV v) [6, 9]) (fun _ wi => YS w2 g n c3 wi) (by kernel_rfl) (by kernel_rfl) ?start ?steps ?finish
        case start => exact HYS.out
        case steps =>
          refine Reg.Steps.zip ?_ ?_
          · refine Reg.step_go rfl ?_
            intro a wi ki hf hd hS hc K hK
            have f14 : a.tmps.getD 14 undef = .slice (some ⟨g, 0, none⟩) n c3 := hf.same 14 rfl
            clear hf hd hc
            have hK0 := Lib.hid hK; clear hK
            have hS0 := Lib.hid hS; clear hS
            go_simp
            exact hK0.out _ _ (Reg.Known.mk_val rfl rfl) (fun _ _ h => h) hS0.out
          refine Reg.Steps.zip ?_ ?_
          · refine Reg.step_go rfl ?_
            intro a wi ki hf hd hS hc K hK
            have f14 : a.tmps.getD 14 undef = .slice (some ⟨g, 0, none⟩) n c3 := hf.same 14 rfl
            clear hf hd hc
            have hK0 := Lib.hid hK; clear hK
            have hS0 := Lib.hid hS; clear hS
            go_simp
            exact hK0.out _ _ (Reg.Known.mk_val rfl rfl) (fun _ _ h => h) hS0.out
          refine Reg.Steps.zip ?_ ?_
          · refine Reg.step_go rfl ?_
            intro a wi ki hf hd hS hc K hK
            have f15 : a.tmps.getD 15 undef = .int .i64 i := hf.same 15 rfl
            clear hf hd hc
            have hK0 := Lib.hid hK; clear hK
            have hS0 := Lib.hid hS; clear hS
            go_simp
            exact hK0.out _ _ (Reg.Known.mk_val rfl rfl) (fun _ _ h => h) hS0.out
          refine Reg.Steps.zip ?_ ?_
          · refine Reg.step_go rfl ?_
            intro a wi ki hf hd hS hc K hK
            have f14 : a.tmps.getD 14 undef = .slice (some ⟨g, 0, none⟩) n c3 := hf.same 14 rfl
            clear hf hd hc
            have hK0 := Lib.hid hK; clear hK
            have hS0 := Lib.hid hS; clear hS
            go_simp
            exact hK0.out _ _ (Reg.Known.mk_val rfl rfl) (fun _ _ h => h) hS0.out
          refine Reg.Steps.zip ?_ ?_
          · refine Reg.step_go rfl ?_
            intro a wi ki hf hd hS hc K hK
            have f15 : a.tmps.getD 15 undef = .int .i64 i := hf.same 15 rfl
            clear hf hd hc
            have hK0 := Lib.hid hK; clear hK
            have hS0 := Lib.hid hS; clear hS
            go_simp
            exact hK0.out _ _ (Reg.Known.mk_val rfl rfl) (fun _ _ h => h) hS0.out
          refine Reg.Steps.zip ?_ ?_
          · refine Reg.step_go rfl ?_
            intro a wi ki hf hd hS hc K hK
            have e53 : a.tmps.getD 53 undef = .slice (some ⟨g, 0, none⟩) n c3 := hd.1.plain rfl
            have e54 : a.tmps.getD 54 undef = .int .i64 i := hd.2.1.plain rfl
            clear hf hd hc
            have hK0 := Lib.hid hK; clear hK
            have hS0 := Lib.hid hS; clear hS
            go_simp
            exact hK0.out _ _ (Reg.Known.mk_val rfl rfl) (fun _ _ h => h) hS0.out
          refine Reg.Steps.zip ?_ ?_
          · refine Reg.step_go rfl ?_
            intro a wi ki hf hd hS hc K hK
            have e55 : a.tmps.getD 55 undef = .pointer (some ⟨g, i * 6, none⟩) := hd.1.plain rfl
            clear hf hd
            exact hS.load i hil _ rfl e55 (fun v hv => hK _ _ (Reg.Known.mk_other rfl hv) (fun _ _ h => h) hS)
          refine Reg.Steps.zip ?_ ?_
          · refine Reg.step_go rfl ?_
            intro a wi ki hf hd hS hc K hK
            have f14 : a.tmps.getD 14 undef = .slice (some ⟨g, 0, none⟩) n c3 := hf.same 14 rfl
            clear hf hd hc
            have hK0 := Lib.hid hK; clear hK
            have hS0 := Lib.hid hS; clear hS
            go_simp
            exact hK0.out _ _ (Reg.Known.mk_val rfl rfl) (fun _ _ h => h) hS0.out
          refine Reg.Steps.zip ?_ ?_
          · refine Reg.step_go rfl ?_
            intro a wi ki hf hd hS hc K hK
            have e57 : a.tmps.getD 57 undef = .slice (some ⟨g, 0, none⟩) n c3 := hd.1.plain rfl
            clear hf hd hc
            have hK0 := Lib.hid hK; clear hK
            have hS0 := Lib.hid hS; clear hS
            go_simp
            exact hK0.out _ _ (Reg.Known.mk_val rfl rfl) (fun _ _ h => h) hS0.out
          refine Reg.Steps.zip ?_ ?_
          · refine Reg.step_go rfl ?_
            intro a wi ki hf hd hS hc K hK
            have e58 : a.tmps.getD 58 undef = .pointer (some ⟨g, 0, none⟩) := hd.1.plain rfl
            clear hf hd
            exact hS.load 0 hn0 _ rfl e58 (fun v hv => hK _ _ (Reg.Known.mk_other rfl hv) (fun _ _ h => h) hS)
          refine Reg.Steps.zip ?_ ?_
          · refine Reg.step_go rfl ?_
            intro a wi ki hf hd hS hc K hK
            have e50 : a.tmps.getD 50 undef = .slice (some ⟨g, 0, none⟩) n c3 := hd.1.plain rfl
            clear hf hd hc
            have hK0 := Lib.hid hK; clear hK
            have hS0 := Lib.hid hS; clear hS
            go_simp
            exact hK0.out _ _ (Reg.Known.mk_val rfl rfl) (fun _ _ h => h) hS0.out
          refine Reg.Steps.zip ?_ ?_
          · refine Reg.step_go rfl ?_
            intro a wi ki hf hd hS hc K hK
            have e60 : a.tmps.getD 60 undef = .pointer (some ⟨g, 0, none⟩) := hd.1.plain rfl
            have x56 := hd.2.1.other rfl
            clear hf hd
            exact hS.store hgc 0 hn0 _ _ rfl e60 x56 (fun w' hS' => hK _ _ (Reg.Known.mk_val rfl rfl) (fun _ _ h => ⟨h.plain, h.other⟩) hS')
          refine Reg.Steps.zip ?_ ?_
          · refine Reg.step_go rfl ?_
            intro a wi ki hf hd hS hc K hK
            have e51 : a.tmps.getD 51 undef = .slice (some ⟨g, 0, none⟩) n c3 := hd.1.plain rfl
            have e52 : a.tmps.getD 52 undef = .int .i64 i := hd.2.1.plain rfl
            clear hf hd hc
            have hK0 := Lib.hid hK; clear hK
            have hS0 := Lib.hid hS; clear hS
            go_simp
            exact hK0.out _ _ (Reg.Known.mk_val rfl rfl) (fun _ _ h => h) hS0.out
          refine Reg.Steps.zip ?_ ?_
          · refine Reg.step_go rfl ?_
            intro a wi ki hf hd hS hc K hK
            have e61 : a.tmps.getD 61 undef = .pointer (some ⟨g, i * 6, none⟩) := hd.1.plain rfl
            have x59 := hd.2.1.other rfl
            clear hf hd
            exact hS.store hgc i hil _ _ rfl e61 x59 (fun w' hS' => hK _ _ (Reg.Known.mk_val rfl rfl) (fun _ _ h => ⟨h.plain, h.other⟩) hS')
          exact Reg.Steps.nil
        case finish =>
          intro a9 w9 hf hd hS9
          obtain ⟨u, hu⟩ : ∃ u : Nat → Value, u = fun s => a9.tmps.getD s undef := ⟨_, rfl⟩
          rw [hf.eq, ← hu]
          clear hf hu hd
          have S9 := Lib.hid hS9
          clear hS9 HYS
          simp (config := { maxSteps := 10000000 }) [Reg.filled]
          go_wp2_with fail
          go_meet
          exact S9.out
    · obtain rfl : n = 0 := by omega
      go_wp2_with fail
      go_meet
      exact ⟨L, HO3.out, HLL.out, HOK.out, HB3.out⟩
  case rest =>
    obtain ⟨Ly, hoy, hly, hoky, hby⟩ := hcut
    have HBW : Hid (Below w.heap.size w wc) := Lib.hid (nextB HB2.out hby)
    have HRY := Lib.hid hoy.rc
    have HRX2 := Lib.hid (HRX.out.later hby)
    have HLY := Lib.hid hly
    have HOKY := Lib.hid hoky
    clear hoy hly hoky hby HO3 HB3 HRX hm1
    go_wp2_with fail
    go_loopw [16, 17] (fun u i wr => ∃ j : Nat, j ≤ n4 ∧ i = .int .i64 j ∧ OwnN wr wc.heap.size u (fewL (ts.take j)) ∧ Below wc.heap.size wc wr) (fun _ i _ => n4 - (intOf i).toNat)
    case atStart => exact ⟨0, Nat.zero_le _, rfl, OwnN.nil _ _, Below.refl _ _⟩
    case round =>
      obtain ⟨j, hj, rfl, ho, hb⟩ := hrel
      have HO := Lib.hid ho; have HB := Lib.hid hb
      have hlf : (fewL (ts.take j)).length = j := by rw [fewL_length, List.length_take, HL4.out]; omega
      obtain ⟨A5, c5, e5, _⟩ := ho.ints
      rw [hlf] at e5
      subst e5
      have HLF := Lib.hid hlf
      by_cases hj4 : j < n4
      · have hjl : j < ts.length := by rw [HL4.out]; exact hj4
        obtain ⟨A6, c6, e6, hl6⟩ := HT.out.below (nextB HBW.out hb)
        injection e6 with e6 e7 e8
        clear e7 e8
        rw [← e6] at hl6
        clear e6
        obtain ⟨b, off, rfl, hbl, cb⟩ := lie_int hl6 hjl
        have HS := Lib.hid (fewL_step hjl)
        generalize ts[j] = x at *
        have i1 : (0 : Int) ≤ (j : Int) ∧ (j : Int) < (n4 : Int) := by omega
        have HM4' := HM4.out
        have HOA : Hid ((wr.alloc (.cells #[.int .i64 (x % 4)] 3)).ownsRow wc.heap.size 3 1 (.slice A5 j c5) j (i64s (fewL (ts.take j)))) := Lib.hid (by
          have h1 := ho
          unfold OwnN at h1
          rw [hlf] at h1
          exact h1.alloc _)
        have hsz : wc.heap.size ≤ wr.heap.size := hb.size
        have h3 := i64_and3 x
        clear hl6 hjl ho hb hlf
        go_wp2_with (at_builtin; go_must (refine wpList_append_L 68 3 _ 8 Try.underlying68 inf_int rfl rfl _ _ rfl wc.heap.size _ _ _ rfl HOA.out (wr.heap.size + 1) _ 1 1 [.int .i64 (x % 4)] rfl rfl (lies_new wr [.int .i64 (x % 4)] 3) ?c2 ?c3 ?c4 ?c5 ?_))
        case c2 => intro u hu; simp at hu; subst hu; rfl
        case c3 => omega
        case c4 => omega
        case c5 => simp; omega
        intro v3 w3 ho3 _ hb3
        have HO3 := Lib.hid (OwnN.snoc (by rw [HLF.out]) ho3 HS.out)
        have HB3 := Lib.hid ((HB.out.trans ((below_alloc wr (.cells #[.int .i64 (x % 4)] 3)).mono hsz)).trans hb3)
        clear hb3 ho3 h3
        go_wp2_with fail
        go_roundw
        case rel => exact ⟨j + 1, by omega, by go_num, HO3.out, HB3.out⟩
        case measure => simp [intOf]; omega
      · obtain rfl : n4 = j := by omega
        have HF0 : Hid (IntsV wr wr.heap.size (.slice A5 n4 c5) (fewL ts)) := Lib.hid (by
          have h1 := ho.ints
          rwa [List.take_of_length_le (by rw [HL4.out]; omega)] at h1)
        obtain ⟨few, hfew⟩ : ∃ y, fewL ts = y := ⟨_, rfl⟩
        have HLF2 : Hid (few.length = n4) := Lib.hid (by rw [← hfew, fewL_length, HL4.out])
        rw [hfew] at HF0
        obtain ⟨w6, hw6⟩ : ∃ y, y = wr.alloc (.cells #[.slice A0 n0 c0, .slice A2 n c2, .slice A3 n c3] 44) := ⟨_, rfl⟩
        obtain ⟨zb, hzb⟩ : ∃ y, wr.heap.size = y := ⟨_, rfl⟩
        have b56 : Below wr.heap.size wr w6 := by rw [hw6]; exact below_alloc wr _
        have hb6 : w6.heap[zb]? = some (.cells #[.slice A0 n0 c0, .slice A2 n c2, .slice A3 n c3] 44 (0, 0)) := by rw [hw6, ← hzb]; exact heap_alloc_new wr _
        have hw06 : Below w.heap.size w w6 := nextB (nextB HBW.out hb) b56
        have HF := Lib.hid ((HF0.out.below b56).more b56.size)
        have HT6 := Lib.hid ((HT.out.below hw06).more hw06.size)
        have HZ : Hid (∀ j, j < 3 → ∃ Az cz Lz, w6.cell? ⟨zb, j, none⟩ = some (.slice Az Lz.length cz) ∧ RcV w6 (.slice Az Lz.length cz) Lz ∧ Lz.length ≤ 30 ∧ ∀ x ∈ Lz, RcOk x) := Lib.hid (fun j hj3 => by
          rcases (by omega : j = 0 ∨ j = 1 ∨ j = 2) with rfl | rfl | rfl
          · have hr := rows_rc HP.out
            have hl : (P.map recO).length = n0 := by rw [List.length_map, HL0.out]
            exact ⟨A0, c0, P.map recO, by rw [hl]; exact cell_blk hb6 0, by rw [hl]; exact hr.1.later hw06, by rw [hl]; have := HM0.out; omega, hr.2⟩
          · exact ⟨A2, c2, L, by rw [HLL.out]; exact cell_blk hb6 1, by rw [HLL.out]; exact HRX2.out.later (nextB hb b56), by rw [HLL.out]; exact HM1.out, HOK.out⟩
          · exact ⟨A3, c3, Ly, by rw [HLY.out]; exact cell_blk hb6 2, by rw [HLY.out]; exact HRY.out.later (nextB hb b56), by rw [HLY.out]; exact HM1.out, HOKY.out⟩)
        have HRX6 := Lib.hid (HRX2.out.later (nextB hb b56))
        have HW06 := Lib.hid hw06
        have HW6 := Lib.hid hw6
        have HZB := Lib.hid hzb
        clear hw6 hzb b56 hb6 hw06 ho hb hlf hfew
        go_wp2_with fail
        rw [← HW6.out, HZB.out]
        go_loopw [118] (fun i wr => ∃ j : Nat, j ≤ 3 ∧ i = .int .i64 j ∧ Below w6.heap.size w6 wr) (fun i _ => 3 - (intOf i).toNat)
        case atStart => exact ⟨0, by omega, rfl, Below.refl _ _⟩
        case round =>
          obtain ⟨j, hj, rfl, hb⟩ := hrel
          have HB := Lib.hid hb
          by_cases hj3 : j < 3
          · obtain ⟨Az, cz, Lz, dz, hrz, hlz, hokz⟩ := HZ.out j hj3
            have HRZ := Lib.hid (hrz.later hb)
            have d1 : wr.cell? ⟨zb, j, none⟩ = some (.slice Az Lz.length cz) := (hb.cell (p := ⟨zb, j, none⟩) (World.block_lt_of_cell? w6 _ dz)).trans dz
            have i1 : (0 : Int) ≤ (j : Int) ∧ (j : Int) < 3 := by omega
            obtain ⟨nz, hnz⟩ : ∃ y, Lz.length = y := ⟨_, rfl⟩
            rw [hnz] at d1 HRZ hlz
            have HNZ := Lib.hid hnz
            have HOKZ := Lib.hid hokz
            have HLZ := Lib.hid hlz
            have HNW := Lib.hid (logNew_any wr)
            clear dz hrz hb hnz hokz hlz
            go_wp2_with fail
            refine HNW.out.mono ?_
            rintro e w7 ⟨ga, rfl, hlog, hga, hb7⟩
            have HAD := Lib.hid (logAddV_any hlog (HRZ.out.later hb7) (by have := HLZ.out; rw [HNZ.out]; simp; omega))
            have HGA := Lib.hid hga
            have HB7 := Lib.hid hb7
            clear hlog hga hb7
            go_wp2_with fail
            refine HAD.out.mono ?_
            rintro e w8 ⟨rfl, S8, hl8, hst⟩
            have b8 : Below wr.heap.size wr w8 := HB7.out.trans (hst.below (fun k hk => by rw [hk]; exact HGA.out) HB7.out.size)
            have hb68 : Below w6.heap.size w6 w8 := nextB HB.out b8
            have HS0 : Hid (TzS w6 ga (.slice Az nz cz) (.slice A4 n4 c4) (.slice A5 n4 c5) Lz ts few w8.drew) := Lib.hid (TzS.later ⟨⟨S8, hl8⟩, HRZ.out.later b8, (HT6.out.below hb68).more hb68.size, (HF.out.below hb68).more hb68.size, hb68⟩ ⟨rfl, rfl, rfl, Nat.le_refl _, fun _ _ => rfl⟩)
            obtain ⟨rb, hrb⟩ : ∃ y, rightL Lz = y := ⟨_, rfl⟩
            obtain ⟨pl, hpl⟩ : ∃ y, putL Lz = y := ⟨_, rfl⟩
            obtain ⟨ST, hst2⟩ : ∃ y, strOfNums pl = y := ⟨_, rfl⟩
            have hl1 : Lz.length ≤ 1000 := by have := HLZ.out; rw [HNZ.out]; omega
            have HRT : Hid (∀ W, RcV W (.slice Az nz cz) Lz → Calls Try.prog 36 #[.slice Az nz cz] W fun e w' => e = .returned (.bool rb) ∧ Below W.heap.size W w') := Lib.hid (fun W h => by rw [← hrb]; exact right_any h (by omega) HOKZ.out)
            have HRR : Hid (∀ W, RcV W (.slice Az nz cz) Lz → Calls Try.prog 37 #[.slice Az nz cz] W fun e w' => e = .returned (.bool rb) ∧ Below W.heap.size W w') := Lib.hid (fun W h => by rw [← hrb]; exact refRight_any h (by omega))
            have HPU : Hid (∀ W, RcV W (.slice Az nz cz) Lz → Calls Try.prog 38 #[.slice Az nz cz] W (BytMade W pl)) := Lib.hid (fun W h => by rw [← hpl]; exact auditPut_any h hl1 HOKZ.out)
            have HPR : Hid (∀ W, RcV W (.slice Az nz cz) Lz → Calls Try.prog 39 #[.slice Az nz cz] W (BytMade W pl)) := Lib.hid (fun W h => by rw [← hpl]; exact refAPut_any h hl1 HOKZ.out)
            have HAL : Hid (∀ W, (∃ S, LogV W S ga Lz) → Calls Try.prog 40 #[.pointer (some ⟨ga, 0, none⟩)] W (ClR W Lz)) := Lib.hid (fun W h => by obtain ⟨S, h⟩ := h; exact logAll_any h (by omega))
            have HOF : Hid (∀ W vt l, (∃ S, LogV W S ga Lz) → IntsV W W.heap.size vt l → l.length ≤ 1000 → Calls Try.prog 41 #[.pointer (some ⟨ga, 0, none⟩), vt] W (ClR W (ofL l Lz))) := Lib.hid (fun W vt l h h2 h3 => by obtain ⟨S, h⟩ := h; exact logOf_any h (by omega) h2 h3)
            have HOR : Hid (∀ W vt l, RcV W (.slice Az nz cz) Lz → IntsV W W.heap.size vt l → l.length ≤ 1000 → Calls Try.prog 42 #[.slice Az nz cz, vt] W (ClR W (ofL l Lz))) := Lib.hid (fun W vt l h h2 h3 => refOf_any h (by omega) h2 h3)
            have HSL : Hid (∀ l, (ofL l Lz).length ≤ 100000) := Lib.hid (fun l => Nat.le_trans (ofL_len l Lz) (by omega))
            have HSL0 : Hid (Lz.length ≤ 100000) := Lib.hid (by omega)
            have HTL : Hid (ts.length ≤ 1000 ∧ few.length ≤ 1000) := Lib.hid (by have := HM4.out; rw [HL4.out, HLF2.out]; omega)
            have HST := Lib.hid hst2
            clear hl8 hst b8 hb68 hrb hpl hl1 hst2
            go_upto_region 31 with (fail)
            refine Reg.wp_facts_sl [126, 127, 128, 129, 130, 131, 132, 133, 134, 135, 136, 137, 138, 139, 140, 141, 142, 143, 144, 145, 146, 147, 148, 149, 150, 151, 152, 153, 154, 155, 156, 157, 158, 159, 160, 161, 162, 163, 164, 165, 166] rfl [] [[], [(0, 126)], [], [(2, 128)], [(1, 127), (3, 129)], [(4, 130)], [], [(6, 132)], [(7, 133)], [], [(9, 135)], [(10, 136)], [(8, 134), (11, 137)], [(5, 131), (12, 138)], [(13, 139)], [], [(15, 141)], [], [(16, 142), (17, 143)], [(18, 144)], [(14, 140), (19, 145)], [(20, 146)], [], [], [(22, 148), (23, 149)], [], [], [(25, 151), (26, 152)], [(24, 150), (27, 153)], [(28, 154)], [(21, 147), (29, 155)], [(30, 156)], [], [], [(32, 158), (33, 159)], [], [], [(35, 161), (36, 162)], [(34, 160), (37, 163)], [(38, 164)], [(31, 157), (39, 165)]] [(40, 166)] (Reg.Known (at31Val ga nz cz n4 c4 c5 Az A4 A5 rb ST) (TzX pl Lz ts few) [7, 10, 16, 24, 27, 34, 37]) (fun _ wi => TzS w6 ga (.slice Az nz cz) (.slice A4 n4 c4) (.slice A5 n4 c5) Lz ts few wi) (by kernel_rfl) (by kernel_rfl) ?start ?steps ?finish
            case start => exact HS0.out
            case steps =>
              refine Reg.Steps.zip ?_ ?_
              · refine Reg.step_go rfl ?_
                intro a wi ki hf hd hS hc K hK
                have f19 : a.tmps.getD 19 undef = .slice Az nz cz := hf.same 19 rfl
                clear hf hd hc
                have hK0 := Lib.hid hK; clear hK
                have hS0 := Lib.hid hS; clear hS
                go_simp
                exact hK0.out _ _ (Reg.Known.mk_val rfl rfl) (fun _ _ h => h) hS0.out
              refine Reg.Steps.zip ?_ ?_
              · refine Reg.step_go rfl ?_
                intro a wi ki hf hd hS hc K hK
                have e126 : a.tmps.getD 126 undef = .slice Az nz cz := hd.1.plain rfl
                clear hf hd
                have HS := Lib.hid hS; clear hS
                have hK0 := Lib.hid hK; clear hK hc
                go_simp
                refine (HRT.out wi HS.out.rc).mono ?_
                rintro e wA ⟨rfl, hbA⟩
                exact hK0.out _ _ (Reg.Known.mk_val rfl rfl) (fun i u h => known_tz hbA h) (HS.out.later hbA)
              refine Reg.Steps.zip ?_ ?_
              · refine Reg.step_go rfl ?_
                intro a wi ki hf hd hS hc K hK
                have f19 : a.tmps.getD 19 undef = .slice Az nz cz := hf.same 19 rfl
                clear hf hd hc
                have hK0 := Lib.hid hK; clear hK
                have hS0 := Lib.hid hS; clear hS
                go_simp
                exact hK0.out _ _ (Reg.Known.mk_val rfl rfl) (fun _ _ h => h) hS0.out
              refine Reg.Steps.zip ?_ ?_
              · refine Reg.step_go rfl ?_
                intro a wi ki hf hd hS hc K hK
                have e128 : a.tmps.getD 128 undef = .slice Az nz cz := hd.1.plain rfl
                clear hf hd
                have HS := Lib.hid hS; clear hS
                have hK0 := Lib.hid hK; clear hK hc
                go_simp
                refine (HRR.out wi HS.out.rc).mono ?_
                rintro e wA ⟨rfl, hbA⟩
                exact hK0.out _ _ (Reg.Known.mk_val rfl rfl) (fun i u h => known_tz hbA h) (HS.out.later hbA)
              refine Reg.Steps.zip ?_ ?_
              · refine Reg.step_go rfl ?_
                intro a wi ki hf hd hS hc K hK
                have e127 : a.tmps.getD 127 undef = .bool rb := hd.1.plain rfl
                have e129 : a.tmps.getD 129 undef = .bool rb := hd.2.1.plain rfl
                clear hf hd hc
                have fb : (rb != rb) = false := bne_self_eq_false _
                have hK0 := Lib.hid hK; clear hK
                have hS0 := Lib.hid hS; clear hS
                go_simp
                exact hK0.out _ _ (Reg.Known.mk_val rfl rfl) (fun _ _ h => h) hS0.out
              refine Reg.Steps.zip ?_ ?_
              · refine Reg.step_go rfl ?_
                intro a wi ki hf hd hS hc K hK
                have e130 : a.tmps.getD 130 undef = .bool false := hd.1.plain rfl
                clear hf hd hc
                have hK0 := Lib.hid hK; clear hK
                have hS0 := Lib.hid hS; clear hS
                go_simp
                exact hK0.out _ _ (Reg.Known.mk_val rfl rfl) (fun _ _ h => h) hS0.out
              refine Reg.Steps.zip ?_ ?_
              · refine Reg.step_on rfl (fun u w h => h.plain rfl) ?_
                intro a wi ki hf hd hS hc K hK
                have f19 : a.tmps.getD 19 undef = .slice Az nz cz := hf.same 19 rfl
                clear hf hd hc
                have hK0 := Lib.hid hK; clear hK
                have hS0 := Lib.hid hS; clear hS
                go_simp
                exact hK0.out _ _ (Reg.Known.mk_val rfl rfl) (fun _ _ h => h) hS0.out
              refine Reg.Steps.zip ?_ ?_
              · refine Reg.step_on rfl (fun u w h => h.plain rfl) ?_
                intro a wi ki hf hd hS hc K hK
                have e132 : a.tmps.getD 132 undef = .slice Az nz cz := hd.1.plain rfl
                clear hf hd
                have HS := Lib.hid hS; clear hS
                have hK0 := Lib.hid hK; clear hK hc
                go_simp
                refine (HPU.out wi HS.out.rc).mono ?_
                rintro e wA ⟨v, rfl, hoA, hbA⟩
                obtain ⟨A5', c5', rfl, _, _, _, hl5, _⟩ := Lies.of_own hoA
                exact hK0.out _ _ (Reg.Known.mk_other rfl (show PieceB pl _ _ from ⟨A5', _, c5', rfl, rfl, hl5⟩)) (fun i u h => known_tz hbA h) (HS.out.later hbA)
              refine Reg.Steps.zip ?_ ?_
              · refine Reg.step_on rfl (fun u w h => h.plain rfl) ?_
                intro a wi ki hf hd hS hc K hK
                have x133 := hd.1.other rfl
                clear hf hd hc
                obtain ⟨A', n', c', e133, hn', hl'⟩ := x133
                have cv := conv_bytes hn' hl' c'
                rw [HST.out] at cv
                clear hn'
                have hK0 := Lib.hid hK; clear hK
                have hS0 := Lib.hid hS; clear hS
                go_simp
                exact hK0.out _ _ (Reg.Known.mk_val rfl rfl) (fun _ _ h => h) hS0.out
              refine Reg.Steps.zip ?_ ?_
              · refine Reg.step_on rfl (fun u w h => h.plain rfl) ?_
                intro a wi ki hf hd hS hc K hK
                have f19 : a.tmps.getD 19 undef = .slice Az nz cz := hf.same 19 rfl
                clear hf hd hc
                have hK0 := Lib.hid hK; clear hK
                have hS0 := Lib.hid hS; clear hS
                go_simp
                exact hK0.out _ _ (Reg.Known.mk_val rfl rfl) (fun _ _ h => h) hS0.out
              refine Reg.Steps.zip ?_ ?_
              · refine Reg.step_on rfl (fun u w h => h.plain rfl) ?_
                intro a wi ki hf hd hS hc K hK
                have e135 : a.tmps.getD 135 undef = .slice Az nz cz := hd.1.plain rfl
                clear hf hd
                have HS := Lib.hid hS; clear hS
                have hK0 := Lib.hid hK; clear hK hc
                go_simp
                refine (HPR.out wi HS.out.rc).mono ?_
                rintro e wA ⟨v, rfl, hoA, hbA⟩
                obtain ⟨A5', c5', rfl, _, _, _, hl5, _⟩ := Lies.of_own hoA
                exact hK0.out _ _ (Reg.Known.mk_other rfl (show PieceB pl _ _ from ⟨A5', _, c5', rfl, rfl, hl5⟩)) (fun i u h => known_tz hbA h) (HS.out.later hbA)
              refine Reg.Steps.zip ?_ ?_
              · refine Reg.step_on rfl (fun u w h => h.plain rfl) ?_
                intro a wi ki hf hd hS hc K hK
                have x136 := hd.1.other rfl
                clear hf hd hc
                obtain ⟨A', n', c', e136, hn', hl'⟩ := x136
                have cv := conv_bytes hn' hl' c'
                rw [HST.out] at cv
                clear hn'
                have hK0 := Lib.hid hK; clear hK
                have hS0 := Lib.hid hS; clear hS
                go_simp
                exact hK0.out _ _ (Reg.Known.mk_val rfl rfl) (fun _ _ h => h) hS0.out
              refine Reg.Steps.zip ?_ ?_
              · refine Reg.step_on rfl (fun u w h => h.plain rfl) ?_
                intro a wi ki hf hd hS hc K hK
                have e134 : a.tmps.getD 134 undef = .string ST := hd.1.plain rfl
                have e137 : a.tmps.getD 137 undef = .string ST := hd.2.1.plain rfl
                clear hf hd hc
                have fb : (ST.toList != ST.toList) = false := bne_self_eq_false _
                have hK0 := Lib.hid hK; clear hK
                have hS0 := Lib.hid hS; clear hS
                go_simp
                exact hK0.out _ _ (Reg.Known.mk_val rfl rfl) (fun _ _ h => h) hS0.out
              refine Reg.Steps.zip ?_ ?_
              · refine Reg.step_go rfl ?_
                intro a wi ki hf hd hS hc K hK
                have e131 : a.tmps.getD 131 undef = .bool false := hd.1.plain rfl
                have e138 : a.tmps.getD 138 undef = .bool false := hd.2.1.plain rfl
                clear hf hd hc
                have hK0 := Lib.hid hK; clear hK
                have hS0 := Lib.hid hS; clear hS
                go_simp
                exact hK0.out _ _ (Reg.Known.mk_val rfl rfl) (fun _ _ h => h) hS0.out
              refine Reg.Steps.zip ?_ ?_
              · refine Reg.step_go rfl ?_
                intro a wi ki hf hd hS hc K hK
                have e139 : a.tmps.getD 139 undef = .bool false := hd.1.plain rfl
                clear hf hd hc
                have hK0 := Lib.hid hK; clear hK
                have hS0 := Lib.hid hS; clear hS
                go_simp
                exact hK0.out _ _ (Reg.Known.mk_val rfl rfl) (fun _ _ h => h) hS0.out
              refine Reg.Steps.zip ?_ ?_
              · refine Reg.step_on rfl (fun u w h => h.plain rfl) ?_
                intro a wi ki hf hd hS hc K hK
                have f20 : a.tmps.getD 20 undef = .pointer (some ⟨ga, 0, none⟩) := hf.same 20 rfl
                clear hf hd hc
                have hK0 := Lib.hid hK; clear hK
                have hS0 := Lib.hid hS; clear hS
                go_simp
                exact hK0.out _ _ (Reg.Known.mk_val rfl rfl) (fun _ _ h => h) hS0.out
              refine Reg.Steps.zip ?_ ?_
              · refine Reg.step_on rfl (fun u w h => h.plain rfl) ?_
                intro a wi ki hf hd hS hc K hK
                have e141 : a.tmps.getD 141 undef = .pointer (some ⟨ga, 0, none⟩) := hd.1.plain rfl
                clear hf hd
                have HS := Lib.hid hS; clear hS
                have hK0 := Lib.hid hK; clear hK hc
                go_simp
                refine (HAL.out wi HS.out.log).mono ?_
                rintro e wA ⟨v, rfl, hoA, hbA⟩
                exact hK0.out _ _ (Reg.Known.mk_other rfl (show RcV _ _ Lz from hoA.rc)) (fun i u h => known_tz hbA h) (HS.out.later hbA)
              refine Reg.Steps.zip ?_ ?_
              · refine Reg.step_on rfl (fun u w h => h.plain rfl) ?_
                intro a wi ki hf hd hS hc K hK
                have f19 : a.tmps.getD 19 undef = .slice Az nz cz := hf.same 19 rfl
                clear hf hd hc
                have hK0 := Lib.hid hK; clear hK
                have hS0 := Lib.hid hS; clear hS
                go_simp
                exact hK0.out _ _ (Reg.Known.mk_val rfl rfl) (fun _ _ h => h) hS0.out
              refine Reg.Steps.zip ?_ ?_
              · refine Reg.step_on rfl (fun u w h => h.plain rfl) ?_
                intro a wi ki hf hd hS hc K hK
                have x142 := hd.1.other rfl
                have e143 : a.tmps.getD 143 undef = .slice Az nz cz := hd.2.1.plain rfl
                clear hf hd
                have y142 : RcV wi (a.tmps.getD 142 undef) Lz := x142
                clear x142
                obtain ⟨A1', c1', e142, _⟩ := id y142
                rw [e142] at y142
                have HY1 := Lib.hid y142
                clear y142
                have HS := Lib.hid hS; clear hS
                have hK0 := Lib.hid hK; clear hK hc
                go_simp
                refine (sameAudit_any HY1.out HS.out.rc HSL0.out).mono ?_
                rintro e wA ⟨rfl, hbA⟩
                exact hK0.out _ _ (Reg.Known.mk_val rfl rfl) (fun i u h => known_tz hbA h) (HS.out.later hbA)
              refine Reg.Steps.zip ?_ ?_
              · refine Reg.step_on rfl (fun u w h => h.plain rfl) ?_
                intro a wi ki hf hd hS hc K hK
                have e144 : a.tmps.getD 144 undef = .bool true := hd.1.plain rfl
                clear hf hd hc
                have hK0 := Lib.hid hK; clear hK
                have hS0 := Lib.hid hS; clear hS
                go_simp
                exact hK0.out _ _ (Reg.Known.mk_val rfl rfl) (fun _ _ h => h) hS0.out
              refine Reg.Steps.zip ?_ ?_
              · refine Reg.step_go rfl ?_
                intro a wi ki hf hd hS hc K hK
                have e140 : a.tmps.getD 140 undef = .bool false := hd.1.plain rfl
                have e145 : a.tmps.getD 145 undef = .bool false := hd.2.1.plain rfl
                clear hf hd hc
                have hK0 := Lib.hid hK; clear hK
                have hS0 := Lib.hid hS; clear hS
                go_simp
                exact hK0.out _ _ (Reg.Known.mk_val rfl rfl) (fun _ _ h => h) hS0.out
              refine Reg.Steps.zip ?_ ?_
              · refine Reg.step_go rfl ?_
                intro a wi ki hf hd hS hc K hK
                have e146 : a.tmps.getD 146 undef = .bool false := hd.1.plain rfl
                clear hf hd hc
                have hK0 := Lib.hid hK; clear hK
                have hS0 := Lib.hid hS; clear hS
                go_simp
                exact hK0.out _ _ (Reg.Known.mk_val rfl rfl) (fun _ _ h => h) hS0.out
              refine Reg.Steps.zip ?_ ?_
              · refine Reg.step_on rfl (fun u w h => h.plain rfl) ?_
                intro a wi ki hf hd hS hc K hK
                have f20 : a.tmps.getD 20 undef = .pointer (some ⟨ga, 0, none⟩) := hf.same 20 rfl
                clear hf hd hc
                have hK0 := Lib.hid hK; clear hK
                have hS0 := Lib.hid hS; clear hS
                go_simp
                exact hK0.out _ _ (Reg.Known.mk_val rfl rfl) (fun _ _ h => h) hS0.out
              refine Reg.Steps.zip ?_ ?_
              · refine Reg.step_on rfl (fun u w h => h.plain rfl) ?_
                intro a wi ki hf hd hS hc K hK
                have f4 : a.tmps.getD 4 undef = .slice A4 n4 c4 := hf.same 4 rfl
                clear hf hd hc
                have hK0 := Lib.hid hK; clear hK
                have hS0 := Lib.hid hS; clear hS
                go_simp
                exact hK0.out _ _ (Reg.Known.mk_val rfl rfl) (fun _ _ h => h) hS0.out
              refine Reg.Steps.zip ?_ ?_
              · refine Reg.step_on rfl (fun u w h => h.plain rfl) ?_
                intro a wi ki hf hd hS hc K hK
                have e148 : a.tmps.getD 148 undef = .pointer (some ⟨ga, 0, none⟩) := hd.1.plain rfl
                have e149 : a.tmps.getD 149 undef = .slice A4 n4 c4 := hd.2.1.plain rfl
                clear hf hd
                have HS := Lib.hid hS; clear hS
                have hK0 := Lib.hid hK; clear hK hc
                go_simp
                refine (HOF.out wi _ _ HS.out.log HS.out.ts HTL.out.1).mono ?_
                rintro e wA ⟨v, rfl, hoA, hbA⟩
                exact hK0.out _ _ (Reg.Known.mk_other rfl (show RcV _ _ (ofL ts Lz) from hoA.rc)) (fun i u h => known_tz hbA h) (HS.out.later hbA)
              refine Reg.Steps.zip ?_ ?_
              · refine Reg.step_on rfl (fun u w h => h.plain rfl) ?_
                intro a wi ki hf hd hS hc K hK
                have f19 : a.tmps.getD 19 undef = .slice Az nz cz := hf.same 19 rfl
                clear hf hd hc
                have hK0 := Lib.hid hK; clear hK
                have hS0 := Lib.hid hS; clear hS
                go_simp
                exact hK0.out _ _ (Reg.Known.mk_val rfl rfl) (fun _ _ h => h) hS0.out
              refine Reg.Steps.zip ?_ ?_
              · refine Reg.step_on rfl (fun u w h => h.plain rfl) ?_
                intro a wi ki hf hd hS hc K hK
                have f4 : a.tmps.getD 4 undef = .slice A4 n4 c4 := hf.same 4 rfl
                clear hf hd hc
                have hK0 := Lib.hid hK; clear hK
                have hS0 := Lib.hid hS; clear hS
                go_simp
                exact hK0.out _ _ (Reg.Known.mk_val rfl rfl) (fun _ _ h => h) hS0.out
              refine Reg.Steps.zip ?_ ?_
              · refine Reg.step_on rfl (fun u w h => h.plain rfl) ?_
                intro a wi ki hf hd hS hc K hK
                have e151 : a.tmps.getD 151 undef = .slice Az nz cz := hd.1.plain rfl
                have e152 : a.tmps.getD 152 undef = .slice A4 n4 c4 := hd.2.1.plain rfl
                clear hf hd
                have HS := Lib.hid hS; clear hS
                have hK0 := Lib.hid hK; clear hK hc
                go_simp
                refine (HOR.out wi _ _ HS.out.rc HS.out.ts HTL.out.1).mono ?_
                rintro e wA ⟨v, rfl, hoA, hbA⟩
                exact hK0.out _ _ (Reg.Known.mk_other rfl (show RcV _ _ (ofL ts Lz) from hoA.rc)) (fun i u h => known_tz hbA h) (HS.out.later hbA)
              refine Reg.Steps.zip ?_ ?_
              · refine Reg.step_on rfl (fun u w h => h.plain rfl) ?_
                intro a wi ki hf hd hS hc K hK
                have x150 := hd.1.other rfl
                have x153 := hd.2.1.other rfl
                clear hf hd
                have y150 : RcV wi (a.tmps.getD 150 undef) (ofL ts Lz) := x150
                have y153 : RcV wi (a.tmps.getD 153 undef) (ofL ts Lz) := x153
                clear x150 x153
                obtain ⟨A1', c1', e150, _⟩ := id y150
                obtain ⟨A2', c2', e153, _⟩ := id y153
                rw [e150] at y150
                rw [e153] at y153
                have HY1 := Lib.hid y150; have HY2 := Lib.hid y153
                clear y150 y153
                have HS := Lib.hid hS; clear hS
                have hK0 := Lib.hid hK; clear hK hc
                go_simp
                refine (sameAudit_any HY1.out HY2.out (HSL.out ts)).mono ?_
                rintro e wA ⟨rfl, hbA⟩
                exact hK0.out _ _ (Reg.Known.mk_val rfl rfl) (fun i u h => known_tz hbA h) (HS.out.later hbA)
              refine Reg.Steps.zip ?_ ?_
              · refine Reg.step_on rfl (fun u w h => h.plain rfl) ?_
                intro a wi ki hf hd hS hc K hK
                have e154 : a.tmps.getD 154 undef = .bool true := hd.1.plain rfl
                clear hf hd hc
                have hK0 := Lib.hid hK; clear hK
                have hS0 := Lib.hid hS; clear hS
                go_simp
                exact hK0.out _ _ (Reg.Known.mk_val rfl rfl) (fun _ _ h => h) hS0.out
              refine Reg.Steps.zip ?_ ?_
              · refine Reg.step_go rfl ?_
                intro a wi ki hf hd hS hc K hK
                have e147 : a.tmps.getD 147 undef = .bool false := hd.1.plain rfl
                have e155 : a.tmps.getD 155 undef = .bool false := hd.2.1.plain rfl
                clear hf hd hc
                have hK0 := Lib.hid hK; clear hK
                have hS0 := Lib.hid hS; clear hS
                go_simp
                exact hK0.out _ _ (Reg.Known.mk_val rfl rfl) (fun _ _ h => h) hS0.out
              refine Reg.Steps.zip ?_ ?_
              · refine Reg.step_go rfl ?_
                intro a wi ki hf hd hS hc K hK
                have e156 : a.tmps.getD 156 undef = .bool false := hd.1.plain rfl
                clear hf hd hc
                have hK0 := Lib.hid hK; clear hK
                have hS0 := Lib.hid hS; clear hS
                go_simp
                exact hK0.out _ _ (Reg.Known.mk_val rfl rfl) (fun _ _ h => h) hS0.out
              refine Reg.Steps.zip ?_ ?_
              · refine Reg.step_on rfl (fun u w h => h.plain rfl) ?_
                intro a wi ki hf hd hS hc K hK
                have f20 : a.tmps.getD 20 undef = .pointer (some ⟨ga, 0, none⟩) := hf.same 20 rfl
                clear hf hd hc
                have hK0 := Lib.hid hK; clear hK
                have hS0 := Lib.hid hS; clear hS
                go_simp
                exact hK0.out _ _ (Reg.Known.mk_val rfl rfl) (fun _ _ h => h) hS0.out
              refine Reg.Steps.zip ?_ ?_
              · refine Reg.step_on rfl (fun u w h => h.plain rfl) ?_
                intro a wi ki hf hd hS hc K hK
                have f16 : a.tmps.getD 16 undef = .slice A5 n4 c5 := hf.same 16 rfl
                clear hf hd hc
                have hK0 := Lib.hid hK; clear hK
                have hS0 := Lib.hid hS; clear hS
                go_simp
                exact hK0.out _ _ (Reg.Known.mk_val rfl rfl) (fun _ _ h => h) hS0.out
              refine Reg.Steps.zip ?_ ?_
              · refine Reg.step_on rfl (fun u w h => h.plain rfl) ?_
                intro a wi ki hf hd hS hc K hK
                have e158 : a.tmps.getD 158 undef = .pointer (some ⟨ga, 0, none⟩) := hd.1.plain rfl
                have e159 : a.tmps.getD 159 undef = .slice A5 n4 c5 := hd.2.1.plain rfl
                clear hf hd
                have HS := Lib.hid hS; clear hS
                have hK0 := Lib.hid hK; clear hK hc
                go_simp
                refine (HOF.out wi _ _ HS.out.log HS.out.few HTL.out.2).mono ?_
                rintro e wA ⟨v, rfl, hoA, hbA⟩
                exact hK0.out _ _ (Reg.Known.mk_other rfl (show RcV _ _ (ofL few Lz) from hoA.rc)) (fun i u h => known_tz hbA h) (HS.out.later hbA)
              refine Reg.Steps.zip ?_ ?_
              · refine Reg.step_on rfl (fun u w h => h.plain rfl) ?_
                intro a wi ki hf hd hS hc K hK
                have f19 : a.tmps.getD 19 undef = .slice Az nz cz := hf.same 19 rfl
                clear hf hd hc
                have hK0 := Lib.hid hK; clear hK
                have hS0 := Lib.hid hS; clear hS
                go_simp
                exact hK0.out _ _ (Reg.Known.mk_val rfl rfl) (fun _ _ h => h) hS0.out
              refine Reg.Steps.zip ?_ ?_
              · refine Reg.step_on rfl (fun u w h => h.plain rfl) ?_
                intro a wi ki hf hd hS hc K hK
                have f16 : a.tmps.getD 16 undef = .slice A5 n4 c5 := hf.same 16 rfl
                clear hf hd hc
                have hK0 := Lib.hid hK; clear hK
                have hS0 := Lib.hid hS; clear hS
                go_simp
                exact hK0.out _ _ (Reg.Known.mk_val rfl rfl) (fun _ _ h => h) hS0.out
              refine Reg.Steps.zip ?_ ?_
              · refine Reg.step_on rfl (fun u w h => h.plain rfl) ?_
                intro a wi ki hf hd hS hc K hK
                have e161 : a.tmps.getD 161 undef = .slice Az nz cz := hd.1.plain rfl
                have e162 : a.tmps.getD 162 undef = .slice A5 n4 c5 := hd.2.1.plain rfl
                clear hf hd
                have HS := Lib.hid hS; clear hS
                have hK0 := Lib.hid hK; clear hK hc
                go_simp
                refine (HOR.out wi _ _ HS.out.rc HS.out.few HTL.out.2).mono ?_
                rintro e wA ⟨v, rfl, hoA, hbA⟩
                exact hK0.out _ _ (Reg.Known.mk_other rfl (show RcV _ _ (ofL few Lz) from hoA.rc)) (fun i u h => known_tz hbA h) (HS.out.later hbA)
              refine Reg.Steps.zip ?_ ?_
              · refine Reg.step_on rfl (fun u w h => h.plain rfl) ?_
                intro a wi ki hf hd hS hc K hK
                have x160 := hd.1.other rfl
                have x163 := hd.2.1.other rfl
                clear hf hd
                have y160 : RcV wi (a.tmps.getD 160 undef) (ofL few Lz) := x160
                have y163 : RcV wi (a.tmps.getD 163 undef) (ofL few Lz) := x163
                clear x160 x163
                obtain ⟨A1', c1', e160, _⟩ := id y160
                obtain ⟨A2', c2', e163, _⟩ := id y163
                rw [e160] at y160
                rw [e163] at y163
                have HY1 := Lib.hid y160; have HY2 := Lib.hid y163
                clear y160 y163
                have HS := Lib.hid hS; clear hS
                have hK0 := Lib.hid hK; clear hK hc
                go_simp
                refine (sameAudit_any HY1.out HY2.out (HSL.out few)).mono ?_
                rintro e wA ⟨rfl, hbA⟩
                exact hK0.out _ _ (Reg.Known.mk_val rfl rfl) (fun i u h => known_tz hbA h) (HS.out.later hbA)
              refine Reg.Steps.zip ?_ ?_
              · refine Reg.step_on rfl (fun u w h => h.plain rfl) ?_
                intro a wi ki hf hd hS hc K hK
                have e164 : a.tmps.getD 164 undef = .bool true := hd.1.plain rfl
                clear hf hd hc
                have hK0 := Lib.hid hK; clear hK
                have hS0 := Lib.hid hS; clear hS
                go_simp
                exact hK0.out _ _ (Reg.Known.mk_val rfl rfl) (fun _ _ h => h) hS0.out
              refine Reg.Steps.zip ?_ ?_
              · refine Reg.step_go rfl ?_
                intro a wi ki hf hd hS hc K hK
                have e157 : a.tmps.getD 157 undef = .bool false := hd.1.plain rfl
                have e165 : a.tmps.getD 165 undef = .bool false := hd.2.1.plain rfl
                clear hf hd hc
                have hK0 := Lib.hid hK; clear hK
                have hS0 := Lib.hid hS; clear hS
                go_simp
                exact hK0.out _ _ (Reg.Known.mk_val rfl rfl) (fun _ _ h => h) hS0.out
              exact Reg.Steps.nil
            case finish =>
              intro a9 w9 hf hd hS9
              obtain ⟨u, hu⟩ : ∃ u : Nat → Value, u = fun s => a9.tmps.getD s undef := ⟨_, rfl⟩
              have e166 : u 166 = .bool false := by rw [hu]; exact hd.1.plain rfl
              rw [hf.eq, ← hu]
              clear hf hu hd
              have S9 := Lib.hid hS9
              clear hS9 HS0
              simp (config := { maxSteps := 10000000 }) [Reg.filled, e166]
              clear e166
              go_wp2_with fail
              go_roundw
              case rel => exact ⟨j + 1, by omega, by go_num, S9.out.b⟩
              case measure => simp [intOf]; omega
          · obtain rfl : j = 3 := by omega
            rw [show ((3 : Nat) : Int) = 3 from rfl]
            have HRL := Lib.hid (right_any (HRX6.out.later hb) (by rw [HLL.out]; have := HM1.out; omega) HOK.out)
            rw [HRG.out] at HRL
            have HBF := Lib.hid (nextB HW06.out hb)
            clear hb
            go_wp2_with fail
            refine HRL.out.mono ?_
            rintro e wz ⟨rfl, hbz⟩
            have HBZ := Lib.hid (nextB HBF.out hbz)
            clear hbz
            go_wp2_with fail
            go_ret
            exact ⟨rfl, HBZ.out⟩

/- The claim. -/

set_option maxRecDepth 100000 in
theorem lifted (os : Os) (started : os.Started) (H : Type) (enc : TypeId × Value → H) :
    ReturnsInHanded {} Try.checked os 8 .any (Rows.auditTellsSpec.pre6 enc Try.prog Try.f8 Rows.auditTellsRow.domain false) (Rows.auditTellsSpec.post enc Try.prog Try.f8 false true false false) := by
  refine returnsInHanded_of_change (C := Try.checked) ownKnobs started (by kernel_rfl) Try.func8
    (ChangeSpec.witness6 (enc := enc) (C := Try.checked) false ⟨#[], #[.slice none 0 0, .slice none 0 0, .int .u8 0, .int .u8 0, .slice none 0 0, .int .i64 0], []⟩ 8 (by kernel_rfl) (by kernel_rfl) (by kernel_rfl) (by kernel_rfl)) ?_
  intro W base args ds gs before hval hW _ _
  refine law_contract rfl rfl (fun ds h => by match ds, h with | [d1, d2, d3, d4, d5, d6], _ => rfl) (by decide +kernel) hW ?_
  obtain ⟨p, q, hA0, _⟩ := hW
  have hA : DataW.TrodAll enc Try.prog W 0 (fun _ => true) true Try.f8.params.toList args.toList ds p := hA0
  have hval' : ∀ (j : Nat) t v, Try.f8.params[j]? = some t → args[j]? = some v → Value.okWide Try.prog W .any base t v := hval
  rw [Try.params8] at hA hval'
  obtain ⟨v0, vs0, d0, ds0, p0, q0, hargs, rfl, rfl, h0, r0⟩ := trodAll_cons hA
  obtain ⟨v1, vs1, d1, ds1, p1, q1, rfl, rfl, rfl, h1, r1⟩ := trodAll_cons r0
  obtain ⟨v2, vs2, d2, ds2, p2, q2, rfl, rfl, rfl, h2, r2⟩ := trodAll_cons r1
  obtain ⟨v3, vs3, d3, ds3, p3, q3, rfl, rfl, rfl, h3, r3⟩ := trodAll_cons r2
  obtain ⟨v4, vs4, d4, ds4, p4, q4, rfl, rfl, rfl, h4, r4⟩ := trodAll_cons r3
  obtain ⟨v5, vs5, d5, ds5, p5, q5, rfl, rfl, rfl, h5, r5⟩ := trodAll_cons r4
  obtain ⟨rfl, rfl, rfl⟩ := trodAll_nil r5
  obtain rfl : args = #[v0, v1, v2, v3, v4, v5] := by cases args; simp_all
  obtain ⟨l0, h0, m0⟩ := open_rowsS [.i64, .i64, .i64, .i32, .i64, .i32] Try.underlying44 Try.underlying59 (by kernel_rfl) (by kernel_rfl) (by kernel_rfl) (by decide) (hval' 0 _ v0 rfl rfl) h0
  obtain ⟨l1, h1, m1⟩ := open_rows4 (hval' 1 _ v1 rfl rfl) h1
  obtain ⟨z2, rfl, rfl, rfl, w2⟩ := open_int Try.underlying5 (hval' 2 _ v2 rfl rfl) h2
  have b2 : 0 ≤ z2 ∧ z2 ≤ 255 := by simpa [Lit.wf, IntKind.min, IntKind.max, IntKind.signed, IntKind.bits] using w2
  obtain ⟨a2, rfl⟩ : ∃ n : Nat, z2 = n := ⟨z2.toNat, by omega⟩
  obtain ⟨z3, rfl, rfl, rfl, w3⟩ := open_int Try.underlying5 (hval' 3 _ v3 rfl rfl) h3
  have b3 : 0 ≤ z3 ∧ z3 ≤ 255 := by simpa [Lit.wf, IntKind.min, IntKind.max, IntKind.signed, IntKind.bits] using w3
  obtain ⟨a3, rfl⟩ : ∃ n : Nat, z3 = n := ⟨z3.toNat, by omega⟩
  obtain ⟨l4, h4, m4, x4⟩ := open_list (hval' 4 _ v4 rfl rfl) h4
  obtain ⟨a5, rfl, rfl, rfl, w5⟩ := open_int Try.underlying3 (hval' 5 _ v5 rfl rfl) h5
  have b5 : -9223372036854775808 ≤ a5 ∧ a5 ≤ 9223372036854775807 := by simpa [Lit.wf, IntKind.min, IntKind.max, IntKind.signed, IntKind.bits] using w5
  exact walk a2 a3 a5 h0 h1 h4 (by omega) (by omega) b5

theorem proved : Rows.AuditTellsSaid :=
  OpenClaim.holds_of_wide 8 Try.f8 rfl rfl rfl rfl rfl rfl rfl ⟨rfl, rfl, rfl, rfl, rfl⟩ rfl rfl rfl rfl rfl (by kernel_rfl) Try.func8 (by kernel_rfl)
    (of_decide_eq_true (by kernel_rfl)) (by unfold Func.isWrapper; first | (rw [if_pos (by decide +kernel)]; kernel_rfl) | (rw [if_neg (by decide +kernel)]; exact ⟨rfl, rfl⟩))
    (fun os started H enc _ => lifted os started H enc)

end Go.Proofs.Ytmcphlklknfbmaa.auditTells
