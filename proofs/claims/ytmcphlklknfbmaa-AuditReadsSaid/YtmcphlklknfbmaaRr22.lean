/- Law 22's reference: AuditRight. -/
import Derived.Test.YtmcphlklknfbmaaRf22
import Derived.Deep.DeepCutAuto
import Derived.Deep.CutRange
namespace Go.Proofs.Ytmcphlklknfbmaa
set_option maxRecDepth 100000
open Go.RowKit

theorem rdL_prev {L : List RecX} {p : Nat} (h : p < L.length) : rdL (L.take (p + 1)) = (L[p]).rd := by
  rw [List.take_succ_eq_append_getElem h, rdL_snoc]
set_option maxRecDepth 100000 in
set_option maxHeartbeats 16000000 in
theorem refRight_any {w : World} {v : Value} {L : List RecX} (h : RcV w v L) (hn : L.length ≤ 100000) :
    Calls Try.prog 37 #[v] w fun e w' => e = .returned (.bool (rightL L)) ∧ Below w.heap.size w w' := by
  have HRC := Lib.hid h
  obtain ⟨A, c, rfl, hjunk⟩ := h
  clear hjunk
  obtain ⟨n, hln⟩ : ∃ n, L.length = n := ⟨_, rfl⟩
  have HLN := Lib.hid hln
  rw [hln] at HRC hn ⊢
  obtain ⟨res, hres⟩ : ∃ y, rightL L = y := ⟨_, rfl⟩
  have HRES := Lib.hid hres
  rw [hres]
  clear hln hres
  go_enter Try.func37, Try.ntmps37
  go_wp2_with fail
  go_loopw [3] (fun i wr => ∃ j : Nat, j ≤ n ∧ i = .int .i64 j ∧ 0 ≤ rdL (L.take j) ∧ (∀ k (hk : k < L.length), k < j → okR (L.take k) L[k] = true) ∧ Below w.heap.size w wr) (fun i _ => n - (intOf i).toNat)
  case atStart => exact ⟨0, Nat.zero_le _, rfl, Int.le_refl _, (fun k _ h => by omega), Below.refl _ _⟩
  case round =>
    obtain ⟨j, hj, rfl, hrd0, hok, hb⟩ := hrel
    have HB := Lib.hid hb
    by_cases hjn : j < n
    · have hjl : j < L.length := by rw [HLN.out]; exact hjn
      obtain ⟨g, off, eA, hr⟩ := HRC.out.at' hjl
      subst eA
      have HTK := Lib.hid (List.take_succ_eq_append_getElem hjl)
      have HNO : Hid (okR (L.take j) L[j] = false → res = false) := Lib.hid fun e => by rw [← HRES.out]; exact rightL_no hjl e
      have HYE : Hid (okR (L.take j) L[j] = true → ∀ k (hk : k < L.length), k < j + 1 → okR (L.take k) L[k] = true) := Lib.hid fun e k hk hlt => by
        by_cases e2 : k = j
        · subst e2; exact e
        · exact hok k hk (by omega)
      obtain ⟨x, hxe⟩ : ∃ y, L[j] = y := ⟨_, rfl⟩
      rw [hxe] at hr HTK HNO HYE
      obtain ⟨rd, hrd⟩ : ∃ y, rdL (L.take j) = y := ⟨_, rfl⟩
      obtain ⟨ct, hct⟩ : ∃ y : Nat, cntT (L.take j) x.tt = y := ⟨_, rfl⟩
      have HCT := Lib.hid hct
      have hctj : ct ≤ j := by rw [← hct]; exact Nat.le_trans (cntT_le _ _) (by rw [List.length_take]; omega)
      have HOKE : Hid (okR (L.take j) x = !(decide (x.rd < rd) || x.sq != (ct : Int) || decide (x.gt < 0) || decide (x.tt < 0) || decide (x.bb < 0))) := Lib.hid (by unfold okR; rw [hrd, hct])
      have HRD : Hid (rdL (L.take (j + 1)) = x.rd) := Lib.hid (by rw [HTK.out, rdL_snoc])
      have HR := Lib.hid (rc_range_below hr hb)
      obtain ⟨w1, hw1, hX1, hB1⟩ := rec_box wr x
      have x0 : w1.cell? ⟨wr.heap.size, 0, none⟩ = some (.int .i64 x.sq) := cell_blk hX1 0
      have x1 : w1.cell? ⟨wr.heap.size, 1, none⟩ = some (.int .i64 x.gt) := cell_blk hX1 1
      have x2 : w1.cell? ⟨wr.heap.size, 2, none⟩ = some (.int .i64 x.tt) := cell_blk hX1 2
      have x4 : w1.cell? ⟨wr.heap.size, 4, none⟩ = some (.int .i64 x.rd) := cell_blk hX1 4
      have x5 : w1.cell? ⟨wr.heap.size, 5, none⟩ = some (.int .i32 x.bb) := cell_blk hX1 5
      have HX1 := Lib.hid hX1
      have HZ := Lib.hid (rec_zero wr)
      have HW1 := Lib.hid hw1
      have HB1 := Lib.hid (hb.trans (hB1.mono hb.size))
      have i1 : (0 : Int) ≤ (j : Int) ∧ (j : Int) < n := by omega
      have HCJ := Lib.hid hctj
      have HPV : Hid (∀ p, p + 1 = j → ∃ y, w1.cell? ⟨g, off + p * 6 + 4, none⟩ = some (.int .i64 y) ∧ y = rd) := Lib.hid (by
        intro p hp
        subst hp
        have hpl : p < L.length := by omega
        obtain ⟨g', off', e', hr'⟩ := HRC.out.at' hpl
        obtain ⟨rfl, rfl⟩ : g = g' ∧ off = off' := by injection e' with e'; injection e' with e1 e2; exact ⟨e1, e2⟩
        exact ⟨(L[p]).rd, (rc_range_below (rc_range_below hr' hb) hB1) 4 _ rfl, by rw [← hrd, rdL_prev hpl]⟩)
      have HRDE := Lib.hid hrd
      rw [hrd] at hrd0
      have HRD0 := Lib.hid hrd0
      clear hr hjl hw1 hX1 hB1 hb hxe hct hrd hok hctj
      go_upto_region 5 with (first | (refine load_recMid rfl _ rfl g (off + j * 6) x rfl HR.out ?_; simp only [recA]) | (refine store_rec rfl _ _ rfl rfl wr.heap.size x rfl rfl _ zR HZ.out ?_; rw [← HW1.out]) | fail)
      obtain ⟨bad, hbad⟩ : ∃ y, (decide (x.rd < rd) || decide (x.gt < 0) || decide (x.tt < 0) || decide (x.bb < 0)) = y := ⟨_, rfl⟩
      have HBAD := Lib.hid hbad
      have HNB : Hid (∀ nd, Below w1.heap.size w1 (w1.drewN nd)) := Lib.hid fun nd => below_drewN (Below.refl _ _) nd
      go_cut [49] from 17 to 50 (fun b wx => b = .bool bad ∧ Below w1.heap.size w1 wx)
      case first =>
        clear hbad
        by_cases hj0 : 0 < j
        · obtain ⟨p, hp⟩ : ∃ p, p + 1 = j := ⟨j - 1, by omega⟩
          obtain ⟨y, hpv, hyr⟩ := HPV.out p hp
          have k2 : (j : Int) - 1 = (p : Int) := by omega
          have k3 : IntKind.i64.wrap ((j : Int) - 1) = (p : Int) := by rw [k2]; exact IntWalk.i64_in _ (by omega)
          have i2 : (0 : Int) ≤ (p : Int) ∧ (p : Int) < n := by omega
          have i3 : (0 : Int) < (j : Int) := by omega
          have i5 : decide ((0 : Int) < (j : Int)) = true := decide_eq_true i3
          rw [← hyr] at HBAD hrd0
          have HJ := Lib.hid hj; have HP := Lib.hid hp; have HRD0 := Lib.hid hrd0
          clear hp hj hyr hjn hrd0
          by_cases q1 : x.rd < 0
          · have z1 : decide (x.rd < 0) = true := decide_eq_true q1
            have y1 : decide (x.rd < y) = true := decide_eq_true (by have := HRD0.out; omega)
            have HV : Hid (bad = true) := Lib.hid (by rw [← HBAD.out]; simp [y1])
            go_quiet (fail)
            go_wp2_with fail
            go_meet
            exact ⟨by rw [HV.out], HNB.out _⟩
          have z1 : decide (x.rd < 0) = false := decide_eq_false q1
          by_cases q2 : x.rd < y
          · have y1 : decide (x.rd < y) = true := decide_eq_true q2
            have HV : Hid (bad = true) := Lib.hid (by rw [← HBAD.out]; simp [y1])
            go_quiet (fail)
            go_wp2_with fail
            go_meet
            exact ⟨by rw [HV.out], HNB.out _⟩
          have y1 : decide (x.rd < y) = false := decide_eq_false q2
          by_cases q3 : x.gt < 0
          · have z3 : decide (x.gt < 0) = true := decide_eq_true q3
            have HV : Hid (bad = true) := Lib.hid (by rw [← HBAD.out]; simp [y1, z3])
            go_quiet (fail)
            go_wp2_with fail
            go_meet
            exact ⟨by rw [HV.out], HNB.out _⟩
          have z3 : decide (x.gt < 0) = false := decide_eq_false q3
          by_cases q4 : x.tt < 0
          · have z4 : decide (x.tt < 0) = true := decide_eq_true q4
            have HV : Hid (bad = true) := Lib.hid (by rw [← HBAD.out]; simp [y1, z3, z4])
            go_quiet (fail)
            go_wp2_with fail
            go_meet
            exact ⟨by rw [HV.out], HNB.out _⟩
          have z4 : decide (x.tt < 0) = false := decide_eq_false q4
          by_cases q5 : x.bb < 0
          · have z5 : decide (x.bb < 0) = true := decide_eq_true q5
            have HV : Hid (bad = true) := Lib.hid (by rw [← HBAD.out]; simp [y1, z3, z4, z5])
            go_quiet (fail)
            go_wp2_with fail
            go_meet
            exact ⟨by rw [HV.out], HNB.out _⟩
          have z5 : decide (x.bb < 0) = false := decide_eq_false q5
          have HV : Hid (bad = false) := Lib.hid (by rw [← HBAD.out]; simp [y1, z3, z4, z5])
          go_quiet (fail)
          go_wp2_with fail
          go_meet
          exact ⟨by rw [HV.out], HNB.out _⟩
        · have i3 : ¬ ((0 : Int) < (j : Int)) := by omega
          have i4 : ¬ (0 < j) := hj0
          have i5 : decide ((0 : Int) < (j : Int)) = false := decide_eq_false i3
          obtain rfl : j = 0 := by omega
          have h00 : rd = 0 := by rw [← HRDE.out]; rfl
          rw [h00] at HBAD
          have HRD0 : Hid ((0 : Int) ≤ 0) := Lib.hid (Int.le_refl 0)
          clear hj0 hjn h00 hrd0
          by_cases q1 : x.rd < 0
          · have z1 : decide (x.rd < 0) = true := decide_eq_true q1
            have y1 : decide (x.rd < 0) = true := decide_eq_true (by have := HRD0.out; omega)
            have HV : Hid (bad = true) := Lib.hid (by rw [← HBAD.out]; simp [y1])
            go_quiet (fail)
            go_wp2_with fail
            go_meet
            exact ⟨by rw [HV.out], HNB.out _⟩
          have z1 : decide (x.rd < 0) = false := decide_eq_false q1
          have y1 := z1
          by_cases q3 : x.gt < 0
          · have z3 : decide (x.gt < 0) = true := decide_eq_true q3
            have HV : Hid (bad = true) := Lib.hid (by rw [← HBAD.out]; simp [y1, z3])
            go_quiet (fail)
            go_wp2_with fail
            go_meet
            exact ⟨by rw [HV.out], HNB.out _⟩
          have z3 : decide (x.gt < 0) = false := decide_eq_false q3
          by_cases q4 : x.tt < 0
          · have z4 : decide (x.tt < 0) = true := decide_eq_true q4
            have HV : Hid (bad = true) := Lib.hid (by rw [← HBAD.out]; simp [y1, z3, z4])
            go_quiet (fail)
            go_wp2_with fail
            go_meet
            exact ⟨by rw [HV.out], HNB.out _⟩
          have z4 : decide (x.tt < 0) = false := decide_eq_false q4
          by_cases q5 : x.bb < 0
          · have z5 : decide (x.bb < 0) = true := decide_eq_true q5
            have HV : Hid (bad = true) := Lib.hid (by rw [← HBAD.out]; simp [y1, z3, z4, z5])
            go_quiet (fail)
            go_wp2_with fail
            go_meet
            exact ⟨by rw [HV.out], HNB.out _⟩
          have z5 : decide (x.bb < 0) = false := decide_eq_false q5
          have HV : Hid (bad = false) := Lib.hid (by rw [← HBAD.out]; simp [y1, z3, z4, z5])
          go_quiet (fail)
          go_wp2_with fail
          go_meet
          exact ⟨by rw [HV.out], HNB.out _⟩
      case rest =>
        obtain ⟨rfl, hbx⟩ := hcut
        have HBX := Lib.hid hbx
        have HBW : Hid (Below w.heap.size w wc) := Lib.hid (nextB HB1.out hbx)
        clear hbx HPV
        obtain ⟨kb, hkb⟩ : ∃ y, wr.heap.size = y := ⟨_, rfl⟩
        rw [hkb] at x0 x2 ⊢
        clear hkb x1 x4 x5
        have HOB : Hid (okR (L.take j) x = !(bad || x.sq != (ct : Int))) := Lib.hid (by
          rw [HOKE.out, ← HBAD.out]
          cases (decide (x.rd < rd)) <;> cases (decide (x.gt < 0)) <;> cases (decide (x.tt < 0)) <;> cases (decide (x.bb < 0)) <;> cases (x.sq != (ct : Int)) <;> rfl)
        clear hbad
        cases bad with
        | true =>
          obtain rfl := HNO.out (by rw [HOB.out]; rfl)
          go_wp2_with fail
          go_ret
          exact ⟨rfl, HBW.out⟩
        | false =>
          go_wp2_with fail
          go_loopw [5, 6] (fun c k wi => ∃ q : Nat, q ≤ j ∧ k = .int .i64 q ∧ c = .int .i64 (cntT (L.take q) x.tt : Nat) ∧ Below wc.heap.size wc wi) (fun _ k _ => j - (intOf k).toNat)
          case atStart => exact ⟨0, Nat.zero_le _, rfl, rfl, Below.refl _ _⟩
          case round =>
            obtain ⟨q, hq, rfl, rfl, hbi⟩ := hrel
            have HBI : Hid (Below w1.heap.size w1 wr) := Lib.hid (nextB HBX.out hbi)
            have HBJ := Lib.hid hbi
            have b0 : wr.cell? ⟨kb, 0, none⟩ = some (.int .i64 x.sq) := by rw [HBI.out.cell (p := ⟨kb, 0, none⟩) (World.block_lt_of_cell? w1 _ x0)]; exact x0
            have b2 : wr.cell? ⟨kb, 2, none⟩ = some (.int .i64 x.tt) := by rw [HBI.out.cell (p := ⟨kb, 2, none⟩) (World.block_lt_of_cell? w1 _ x2)]; exact x2
            by_cases hqj : q < j
            · have hql : q < L.length := by rw [HLN.out]; omega
              obtain ⟨g', off', e', hr'⟩ := HRC.out.at' hql
              obtain ⟨rfl, rfl⟩ : g = g' ∧ off = off' := by injection e' with e'; injection e' with e1 e2; exact ⟨e1, e2⟩
              have HTQ := Lib.hid (List.take_succ_eq_append_getElem hql)
              obtain ⟨y, hy⟩ : ∃ y, L[q] = y := ⟨_, rfl⟩
              rw [hy] at hr' HTQ
              have d2 : wr.cell? ⟨g, off + q * 6 + 2, none⟩ = some (.int .i64 y.tt) := (rc_range_below (rc_range_below hr' HB1.out) HBI.out) 2 _ rfl
              obtain ⟨cq, hcq⟩ : ∃ c : Nat, cntT (L.take q) x.tt = c := ⟨_, rfl⟩
              have hcqb : cq ≤ q := by rw [← hcq]; exact Nat.le_trans (cntT_le _ _) (by rw [List.length_take]; omega)
              have i1 : (0 : Int) ≤ (q : Int) ∧ (q : Int) < n := by omega
              have HN1 := cntT_snoc (L.take q) y x.tt
              rw [← HTQ.out] at HN1
              rw [hcq]
              by_cases hty : y.tt = x.tt
              · have e3 : (y.tt == x.tt) = true := by simpa using hty
                have HNX : Hid (cntT (L.take (q + 1)) x.tt = cq + 1) := Lib.hid (by rw [if_pos hty.symm, hty, hcq] at HN1; omega)
                clear HN1 hty hcq hy hr' hql e' hbi
                go_wp2_with fail
                go_quiet (fail)
                go_wp2_with fail
                go_roundw
                case rel => exact ⟨q + 1, by omega, by go_num, by rw [HNX.out]; go_num, HBJ.out.trans (below_drewN (Below.refl _ _) _)⟩
                case measure => simp [intOf]; omega
              · have e3 : (y.tt == x.tt) = false := by simpa using hty
                have HNX : Hid (cntT (L.take (q + 1)) x.tt = cq) := Lib.hid (by rw [if_neg (fun e => hty e.symm), hcq] at HN1; omega)
                clear HN1 hty hcq hy hr' hql e' hbi
                go_wp2_with fail
                go_quiet (fail)
                go_wp2_with fail
                go_roundw
                case rel => exact ⟨q + 1, by omega, by go_num, by rw [HNX.out], HBJ.out.trans (below_drewN (Below.refl _ _) _)⟩
                case measure => simp [intOf]; omega
            · obtain rfl : j = q := by omega
              rw [HCT.out]
              have HBF : Hid (Below w.heap.size w wr) := Lib.hid (nextB HB1.out HBI.out)
              clear hbi
              by_cases q2 : x.sq = (ct : Int)
              · have z2 : (x.sq != (ct : Int)) = false := by simpa using q2
                have HK1 := Lib.hid (HYE.out (by rw [HOB.out, z2]; rfl))
                have h2 : 0 ≤ rdL (L.take (j + 1)) := by
                  rw [HRD.out]
                  have h5 := HBAD.out
                  simp only [Bool.or_eq_false_iff, decide_eq_false_iff_not] at h5
                  have := HRD0.out
                  omega
                have H2 := Lib.hid h2
                clear q2 h2
                go_wp2_with fail
                go_roundw
                case rel => exact ⟨j + 1, by omega, by go_num, H2.out, HK1.out, HBF.out⟩
                case measure => simp [intOf]; omega
              · have z2 : (x.sq != (ct : Int)) = true := by simpa using q2
                obtain rfl := HNO.out (by rw [HOB.out, z2]; rfl)
                clear q2
                go_wp2_with fail
                go_ret
                exact ⟨rfl, HBF.out⟩
    · obtain rfl : n = j := by omega
      have e1 : res = true := by
        rw [← HRES.out]
        exact rightL_yes fun k hk => hok k hk (by rw [← HLN.out]; exact hk)
      clear hok hb
      subst e1
      go_wp2_with fail
      go_ret
      exact ⟨rfl, HB.out⟩

end Go.Proofs.Ytmcphlklknfbmaa
