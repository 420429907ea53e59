/- ParkFuel returns true for every input and changes nothing: every examination of a waiting task costs one unit of fuel, whether it is woken or not, and starved tasks are those for which none is left. No condition. -/
import Derived.Test.YtboelofkbhgmfaaMw20
import Derived.Test.YtboelofkbhgmfaaLaw
namespace Go.Proofs.Ytboelofkbhgmfaa.parkFuel
set_option maxRecDepth 100000
open Go.RowKit Go.ChangeShapes Go.WideShapes Go.ChangeAt

/-- Between two looks: those of M wait; behind the first look none of them is settled. -/
def FlK (w wr : World) (a f i : Nat) (M : List (TK × Int)) : Prop := ∃ L : List FutX, PfK w wr a f [16] [L] M ∧ M.length ≤ 12 ∧ (∀ x ∈ M, -2147483648 ≤ x.2 ∧ x.2 ≤ 2147483647) ∧ (0 < i → ∀ x ∈ M, setB [L] x.2 = false)

set_option maxRecDepth 100000 in
set_option maxHeartbeats 8000000 in
theorem walk (n kp fu lo : Nat) (w : World) (hn : n ≤ 255) (hkp : kp ≤ 65535) (hfu : fu ≤ 255) (hlo : lo ≤ 255) : Calls Try.prog 14 #[.int .u8 n, .int .u16 kp, .int .u8 fu, .int .u8 lo] w fun e w' => e = .returned (.bool true) ∧ Below w.heap.size w w' := by
  obtain ⟨k, hk⟩ : ∃ k, n % 12 = k := ⟨_, rfl⟩
  have hk12 : k < 12 := by omega
  have ek : (n : Int) % 12 = (k : Int) := by omega
  obtain ⟨F0, hF⟩ : ∃ F, fu % 60 = F := ⟨_, rfl⟩
  have hF60 : F0 < 60 := by omega
  have HEF : Hid ((fu : Int) % 60 = (F0 : Int)) := Lib.hid (by omega)
  obtain ⟨q6, hq6⟩ : ∃ q, lo % 6 = q := ⟨_, rfl⟩
  have hq66 : q6 < 6 := by omega
  have HEL : Hid ((lo : Int) % 6 = (q6 : Int)) := Lib.hid (by omega)
  have HQ : Hid (quotasZ [16] = [16]) := Lib.hid (by decide)
  clear hk hF hq6
  go_enter Try.func14, Try.ntmps14
  go_wp2_with fail
  refine (known20_any w).mono ?_
  rintro e w1 ⟨rfl, hb1⟩
  have B1 := Lib.hid hb1; clear hb1
  obtain ⟨w2, hw2⟩ : ∃ w2, w2 = w1.alloc (.cells #[.int .i64 16] 3) := ⟨_, rfl⟩
  have B2 : Hid (Below w.heap.size w w2) := Lib.hid (by rw [hw2]; exact B1.out.alloc B1.out.size _)
  have HAN := Lib.hid (fuNew_any (.slice (some ⟨w1.heap.size, 0, none⟩) 1 1) [16] w2 (by rw [hw2]; exact numv_lit w1 [16]) (by simp))
  have HW2 := Lib.hid hw2
  clear hw2
  go_wp2_with fail
  rw [← HW2.out]
  with_reducible refine HAN.out.mono ?_
  rintro e w3 ⟨f, rfl, hA, hb3⟩
  rw [HQ.out] at hA
  have A3 : Hid (FuV w3 (fun b => w2.heap.size ≤ b ∧ b < w3.heap.size) f [16] [[]]) := Lib.hid hA
  have B3 := Lib.hid hb3
  clear hA hb3 HAN
  go_wp2_with fail
  refine (pkNew_any w3).mono ?_
  rintro e w4 ⟨S, a, rfl, hkk, hS, hb⟩
  have P4 := Lib.hid (pf_start B2.out A3.out B3.out hkk hS hb)
  have H0 : Hid (NbK w w4 a f 0) := Lib.hid ⟨[], rfl, P4.out⟩
  clear hkk hS hb A3 P4
  go_wp2_with fail
  try rw [ek]
  clear ek
  go_loopw [12] (fun i wr => ∃ j : Nat, j ≤ k ∧ i = .int .i64 j ∧ NbK w wr a f j) (fun i _ => k - (intOf i).toNat)
  case atStart => exact ⟨0, Nat.zero_le _, rfl, H0.out⟩
  case round =>
    clear H0
    obtain ⟨j, hj, rfl, hK⟩ := hrel
    have HK := Lib.hid hK
    clear hK
    by_cases hjk : j < k
    · obtain ⟨L, hL, hP⟩ := HK.out
      have HL := Lib.hid hL
      obtain ⟨m1, m2, m3⟩ := mk_16 L (by omega) ⟨0, 0, 0, 0⟩
      have HM := Lib.hid (pfMake_any hP 0 0 (by decide))
      rw [m1, m2, m3, hL] at HM
      have hmw : (mW j).length ≤ 100000 := by rw [mW_len]; omega
      have HADD := Lib.hid (fun (w' : World) (L' : List FutX) (h : PfK w w' a f [16] [L'] (mW j)) => pfAdd_any h hmw (idT (j : Int)) (j : Int) rfl)
      rw [← mW_succ] at HADD
      have HL1 : Hid ((L ++ [(⟨0, 0, 0, 0⟩ : FutX)]).length = j + 1) := Lib.hid (by simp [HL.out])
      clear hL hP m1 m2 m3 hmw
      go_wp2_with fail
      refine HM.out.mono ?_
      rintro e w5 ⟨rfl, h5⟩
      have HA5 := Lib.hid (HADD.out w5 _ h5)
      clear h5
      go_wp2_with fail
      refine HA5.out.mono ?_
      rintro e w6 ⟨rfl, h6⟩
      have H6 := Lib.hid h6
      clear h6
      go_wp2_with fail
      · obtain ⟨L', e1, e2⟩ := set_one (L ++ [⟨0, 0, 0, 0⟩]) (j : Int) (keepF 1)
        have HKE := Lib.hid (pfKeep_any H6.out (j : Int) 1 (by omega))
        rw [e1] at HKE
        have HL2 : Hid (L'.length = j + 1) := Lib.hid (e2.trans HL1.out)
        generalize openB [L ++ [⟨0, 0, 0, 0⟩]] (j : Int) = bo at *
        clear e1 e2
        refine HKE.out.mono ?_
        rintro e w7 ⟨rfl, h7⟩
        have H7 : Hid (NbK w w7 a f (j + 1)) := Lib.hid ⟨L', HL2.out, h7⟩
        clear h7
        go_wp2_with fail
        go_roundw
        case rel => exact ⟨j + 1, by omega, by go_num, H7.out⟩
        case measure => simp [intOf]; omega
      · have H7 : Hid (NbK w w6 a f (j + 1)) := Lib.hid ⟨_, HL1.out, H6.out⟩
        go_roundw
        case rel => exact ⟨j + 1, by omega, by go_num, H7.out⟩
        case measure => simp [intOf]; omega
    · obtain rfl : k = j := by omega
      obtain ⟨L, hL, hP⟩ := HK.out
      have H1 : Hid (FlK w wr a f 0 (mW k)) := Lib.hid ⟨L, hP, by rw [mW_len]; omega, mW_bd k (by omega), fun h => by omega⟩
      clear hL hP HK
      have ef := HEF.out
      go_wp2_with fail
      try rw [ef]
      clear ef
      go_loopw [15, 16] (fun x i wr => ∃ (j F : Nat) (M : List (TK × Int)), j ≤ q6 ∧ F ≤ 60 ∧ x = .int .i64 F ∧ i = .int .i64 j ∧ FlK w wr a f j M) (fun _ i _ => q6 - (intOf i).toNat)
      case atStart => exact ⟨0, F0, mW k, Nat.zero_le _, by omega, rfl, rfl, H1.out⟩
      case round =>
        clear H1
        obtain ⟨j, F, M, hj, hF, rfl, rfl, L, hP, hM, hid, hno⟩ := hrel
        have HB := Lib.hid hP.bl
        obtain ⟨N, hN⟩ : ∃ N, M.length = N := ⟨_, rfl⟩
        have HLN := Lib.hid (pfLen_any hP)
        have HLK := Lib.hid (pfLook_any hP hid (by omega) (F : Int) F (by omega) (by omega))
        rw [hN] at HLN HLK
        have HN := Lib.hid hN
        have HID := Lib.hid hid
        have HNO := Lib.hid hno
        have hN12 : N ≤ 12 := by omega
        clear hP hid hno hN hM
        have el := HEL.out
        by_cases hjq : j < q6
        · go_wp2_with fail
          refine HLN.out.mono ?_
          rintro e _ ⟨rfl, rfl⟩
          go_wp2_with fail
          refine HLK.out.mono ?_
          rintro e w5 ⟨v1, v2, L1, L2, rfl, o1, e1, o2, e2, h5⟩
          obtain ⟨A1, c1, rfl⟩ := o1.shape
          obtain ⟨A2, c2, rfl⟩ := o2.shape
          have HLN5 := Lib.hid (pfLen_any h5)
          have hsz := sizes e1 e2 (by rw [HN.out]; omega)
          rw [HN.out] at hsz
          have hp0 : 0 < j → L1.length = 0 := fun hj0 => by
            have h1 := (wk_none (M := M.take (min F N)) fun x hx => HNO.out hj0 x (List.mem_of_mem_take hx)).1
            have h2 := congrArg List.length e1
            rw [h1] at h2
            simpa using h2
          have H5 : Hid (FlK w w5 a f (j + 1) (syP [L] (M.take (min F N)))) := Lib.hid ⟨L, h5, by
              have := (List.length_filter_le (fun x => !setB [L] x.2) (M.take (min F N)))
              rw [List.length_take, HN.out] at this
              unfold syP; omega, fun x hx => HID.out x (List.mem_of_mem_take (List.mem_filter.1 hx).1), fun _ => sy_no⟩
          obtain ⟨p, hp⟩ : ∃ p, L1.length = p := ⟨_, rfl⟩
          obtain ⟨q, hq⟩ : ∃ q, L2.length = q := ⟨_, rfl⟩
          obtain ⟨r, hr⟩ : ∃ r, (syP [L] (M.take (min F N))).length = r := ⟨_, rfl⟩
          rw [hr] at HLN5
          rw [hp, hr, hq] at hsz
          rw [hp] at hp0
          obtain ⟨hs1, hs2⟩ := hsz
          have HM' := Lib.hid H5.out
          rw [hp, hq]
          obtain ⟨m, hm⟩ : ∃ m, min F N = m := ⟨_, rfl⟩
          rw [hm] at hs1 hs2 HM' ⊢
          obtain ⟨F', hF'⟩ : ∃ F', F - m = F' := ⟨_, rfl⟩
          rw [hF']
          have y1 : (F : Int) - (m : Int) = (F' : Int) := by omega
          have y2 : (if (F : Int) < (N : Int) then (F : Int) else (N : Int)) = (m : Int) := by split <;> omega
          have y2' : (if F < N then (F : Int) else (N : Int)) = (m : Int) := by split <;> omega
          have y3 : ((F' : Int) != (F' : Int)) = false := bne_self_eq_false _
          have y4 : (if (N : Int) - (F : Int) < 0 then (0 : Int) else (N : Int) - (F : Int)) = (q : Int) := by split <;> omega
          have y5 : ((q : Int) != (q : Int)) = false := bne_self_eq_false _
          have y6 : ((N : Int) != (p : Int) + (q : Int) + (r : Int)) = false := by simp; omega
          have hpb : p ≤ 100 := by omega
          have hqb : q ≤ 100 := by omega
          have hrb : r ≤ 100 := by omega
          have hFb : F' ≤ 60 := by omega
          have HS := Lib.hid hs1
          clear o1 o2 e1 e2 h5 hp hq hr hs1 hs2 hm hF' H5
          rcases (by omega : j = 0 ∨ 0 < j) with hj0 | hj0
          · have y7 : decide ((0 : Int) < (j : Int)) = false := by simp; omega
            have y7' : decide (0 < j) = false := by simp; omega
            clear hp0
            go_wp2_with fail
            refine HLN5.out.mono ?_
            rintro e _ ⟨rfl, rfl⟩
            go_wp2_with fail
            go_roundw
            case rel => exact ⟨j + 1, F', _, by omega, hFb, rfl, by go_num, HM'.out⟩
            case measure => simp [intOf]; omega
          · have y7 : decide ((0 : Int) < (j : Int)) = true := by simp; omega
            have y7' : decide (0 < j) = true := by simp; omega
            have y8 : decide ((0 : Int) < (p : Int)) = false := by simp; have := hp0 hj0; omega
            have y8' : decide (0 < p) = false := by simp; have := hp0 hj0; omega
            clear hp0
            go_wp2_with fail
            refine HLN5.out.mono ?_
            rintro e _ ⟨rfl, rfl⟩
            go_wp2_with fail
            go_roundw
            case rel => exact ⟨j + 1, F', _, by omega, hFb, rfl, by go_num, HM'.out⟩
            case measure => simp [intOf]; omega
        · obtain rfl : q6 = j := by omega
          go_wp2_with fail
          go_ret
          exact ⟨rfl, HB.out⟩

/- The claim. -/

set_option maxRecDepth 100000 in
theorem lifted (os : Os) (started : os.Started) (H : Type) (enc : TypeId × Value → H) :
    ReturnsInHanded {} Try.checked os 14 .any (Rows.parkFuelSpec.pre6 enc Try.prog Try.f14 Rows.parkFuelRow.domain false) (Rows.parkFuelSpec.post enc Try.prog Try.f14 false true false false) := by
  refine returnsInHanded_of_change (C := Try.checked) ownKnobs started (by kernel_rfl) Try.func14
    (ChangeSpec.witness6 (enc := enc) (C := Try.checked) false ⟨#[], #[.int .u8 0, .int .u16 0, .int .u8 0, .int .u8 0], []⟩ 8 (by kernel_rfl) (by kernel_rfl) (by kernel_rfl) (by kernel_rfl)) ?_
  intro W base args ds gs before hval hW _ _
  refine law_contract rfl rfl (fun ds h => by match ds, h with | [d1, d2, d3, d4], _ => rfl) (by decide +kernel) hW ?_
  obtain ⟨p, q, hA0, _⟩ := hW
  have hA : DataW.TrodAll enc Try.prog W 0 (fun _ => true) true Try.f14.params.toList args.toList ds p := hA0
  have hval' : ∀ (j : Nat) t v, Try.f14.params[j]? = some t → args[j]? = some v → Value.okWide Try.prog W .any base t v := hval
  rw [Try.params14] at hA hval'
  obtain ⟨v0, vs0, d0, ds0, p0, q0, hargs, rfl, rfl, h0, r0⟩ := trodAll_cons hA
  obtain ⟨v1, vs1, d1, ds1, p1, q1, rfl, rfl, rfl, h1, r1⟩ := trodAll_cons r0
  obtain ⟨v2, vs2, d2, ds2, p2, q2, rfl, rfl, rfl, h2, r2⟩ := trodAll_cons r1
  obtain ⟨v3, vs3, d3, ds3, p3, q3, rfl, rfl, rfl, h3, r3⟩ := trodAll_cons r2
  obtain ⟨rfl, rfl, rfl⟩ := trodAll_nil r3
  obtain rfl : args = #[v0, v1, v2, v3] := by cases args; simp_all
  obtain ⟨z0, rfl, rfl, rfl, w0⟩ := open_int Try.underlying5 (hval' 0 _ v0 rfl rfl) h0
  have b0 : 0 ≤ z0 ∧ z0 ≤ 255 := by simpa [Lit.wf, IntKind.min, IntKind.max, IntKind.signed, IntKind.bits] using w0
  obtain ⟨a0, rfl⟩ : ∃ n : Nat, z0 = n := ⟨z0.toNat, by omega⟩
  obtain ⟨z1, rfl, rfl, rfl, w1⟩ := open_int Try.underlying104 (hval' 1 _ v1 rfl rfl) h1
  have b1 : 0 ≤ z1 ∧ z1 ≤ 65535 := by simpa [Lit.wf, IntKind.min, IntKind.max, IntKind.signed, IntKind.bits] using w1
  obtain ⟨a1, rfl⟩ : ∃ n : Nat, z1 = n := ⟨z1.toNat, by omega⟩
  obtain ⟨z2, rfl, rfl, rfl, w2⟩ := open_int Try.underlying5 (hval' 2 _ v2 rfl rfl) h2
  have b2 : 0 ≤ z2 ∧ z2 ≤ 255 := by simpa [Lit.wf, IntKind.min, IntKind.max, IntKind.signed, IntKind.bits] using w2
  obtain ⟨a2, rfl⟩ : ∃ n : Nat, z2 = n := ⟨z2.toNat, by omega⟩
  obtain ⟨z3, rfl, rfl, rfl, w3⟩ := open_int Try.underlying5 (hval' 3 _ v3 rfl rfl) h3
  have b3 : 0 ≤ z3 ∧ z3 ≤ 255 := by simpa [Lit.wf, IntKind.min, IntKind.max, IntKind.signed, IntKind.bits] using w3
  obtain ⟨a3, rfl⟩ : ∃ n : Nat, z3 = n := ⟨z3.toNat, by omega⟩
  exact walk a0 a1 a2 a3 W (by omega) (by omega) (by omega) (by omega)

theorem proved : Rows.ParkFuelSaid :=
  OpenClaim.holds_of_wide 14 Try.f14 rfl rfl rfl rfl rfl rfl rfl ⟨rfl, rfl, rfl, rfl, rfl⟩ rfl rfl rfl rfl rfl (by kernel_rfl) Try.func14 (by kernel_rfl)
    (of_decide_eq_true (by kernel_rfl)) (by unfold Func.isWrapper; first | (rw [if_pos (by decide +kernel)]; kernel_rfl) | (rw [if_neg (by decide +kernel)]; exact ⟨rfl, rfl⟩))
    (fun os started H enc _ => lifted os started H enc)

end Go.Proofs.Ytboelofkbhgmfaa.parkFuel
