/- ParkStays returns true for every input and changes nothing: as long as there is fuel and no future has ended, all tasks stay in order; when one future is broken, only its task is woken. No condition. -/
import Derived.Test.YtboelofkbhgmfaaMw20
import Derived.Test.YtboelofkbhgmfaaLaw
import Derived.Deep.CutRange
import Derived.Deep.DeepCutAuto
namespace Go.Proofs.Ytboelofkbhgmfaa.parkStays
set_option maxRecDepth 100000
open Go.RowKit Go.ChangeShapes Go.WideShapes Go.ChangeAt

theorem one_at (L : List FutX) (hl : L.length ≤ 20) {j : Nat} (hj : j < L.length) : isIn [L] (j : Int) = true ∧ itmZ [L] (j : Int) zF = L[j] ∧ (∀ f, setZ [L] (j : Int) f = [L.set j (f L[j])]) := by
  have h0 : (0 : Int) ≤ (j : Int) := by omega
  have e1 : labelZ (j : Int) = ((0 : Nat) : Int) := by rw [labelZ_pos h0]; omega
  have e2 : numberZ (j : Int) = (j : Int) := by rw [numberZ_pos h0]; omega
  have hv : validB (j : Int) ([L] : List (List FutX)).length = true := by
    unfold validB; rw [e1, decide_eq_true h0]; rfl
  rcases isIn_cases [L] (j : Int) (by simp) with ⟨h, _⟩ | ⟨k, h1, hk, j', h2, _, _, h3⟩
  · rw [hv] at h; cases h
  · obtain rfl : k = 0 := by rw [e1] at h1; omega
    obtain rfl : j' = j := by rw [e2] at h2; omega
    rcases h3 with ⟨h4, _⟩ | ⟨h4, h5, h6, h7⟩
    · have : L.length ≤ j' := h4
      omega
    · exact ⟨h5, h6 zF, h7⟩
theorem mk_20 (L : List FutX) (hl : L.length < 20) (x : FutX) : mkB [20] [L] 0 = true ∧ mkId [20] [L] 0 = (L.length : Nat) ∧ mkL [20] [L] 0 x = [L ++ [x]] := by
  have h0 : mkB [20] [L] 0 = true := by simp [mkB, cntZ, quoZ]; omega
  exact ⟨h0, by unfold mkId; rw [h0]; simp [cntZ], by unfold mkL; rw [h0]; simp⟩
/-- k open futures; the same with one broken. -/
def opF (k : Nat) : List FutX := List.replicate k zF
def brF (k v : Nat) : List FutX := (opF k).set v ⟨0, 2, 0, 5⟩
theorem opF_len (k : Nat) : (opF k).length = k := by simp [opF]
theorem opF_succ (k : Nat) : opF (k + 1) = opF k ++ [zF] := by unfold opF; rw [List.replicate_succ']
theorem brF_len (k v : Nat) : (brF k v).length = k := by simp [brF, opF]
theorem set_op (k : Nat) (hk : k ≤ 20) (j : Nat) (hj : j < k) : setB [opF k] (j : Int) = false := by
  obtain ⟨h1, h2, _⟩ := one_at (opF k) (by rw [opF_len]; exact hk) (j := j) (by rw [opF_len]; exact hj)
  unfold setB; rw [h1, h2]; simp [opF, zF]
theorem set_br (k : Nat) (hk : k ≤ 20) (v j : Nat) (hj : j < k) : setB [brF k v] (j : Int) = (j == v) := by
  obtain ⟨h1, h2, _⟩ := one_at (brF k v) (by rw [brF_len]; exact hk) (j := j) (by rw [brF_len]; exact hj)
  unfold setB; rw [h1, h2]
  unfold brF opF
  rw [List.getElem_set]
  by_cases e : v = j
  · subst e; simp
  · rw [if_neg e]; simp [zF, Ne.symm e]
theorem end_br (k : Nat) (hk : k ≤ 20) (v : Nat) (hv : v < k) : openB [opF k] (v : Int) = true ∧ endL [opF k] (v : Int) (breakF 5) = [brF k v] := by
  obtain ⟨h1, h2, h3⟩ := one_at (opF k) (by rw [opF_len]; exact hk) (j := v) (by rw [opF_len]; exact hv)
  have h4 : (opF k)[v]'(by rw [opF_len]; exact hv) = zF := by simp [opF]
  have h0 : openB [opF k] (v : Int) = true := by unfold openB; rw [h1, h2, h4]; rfl
  refine ⟨h0, ?_⟩
  rw [endL_yes h0, h3, h4]; rfl
theorem range_at : ∀ k, k ≤ 10 → ∀ v, v < k → (List.range k).filter (fun j => j == v) = [v] ∧ (List.range k).filter (fun j => !(j == v)) = (List.range (k - 1)).map (fun i => if i < v then i else i + 1) := by decide
/-- Who is left when task v is gone. -/
def yW (k v : Nat) : List (TK × Int) := ((List.range (k - 1)).map (fun i => if i < v then i else i + 1)).map fun j : Nat => (idT (j : Int), (j : Int))
theorem yW_len (k v : Nat) : (yW k v).length = k - 1 := by simp [yW]
theorem mW_br (k v : Nat) (hk : k ≤ 10) (hv : v < k) : wkP [brF k v] (mW k) = [idT (v : Int)] ∧ syP [brF k v] (mW k) = yW k v := by
  obtain ⟨h1, h2⟩ := range_at k hk v hv
  have hs : ∀ j ∈ List.range k, setB [brF k v] ((j : Nat) : Int) = (j == v) := fun j hj => set_br k (by omega) v j (List.mem_range.1 hj)
  unfold wkP syP mW yW
  refine ⟨?_, ?_⟩
  · rw [List.filter_map, show (List.range k).filter ((fun x : TK × Int => setB [brF k v] x.2) ∘ fun j : Nat => (idT (j : Int), (j : Int))) = [v] from by
      rw [← h1]; exact List.filter_congr fun j hj => hs j hj]
    rfl
  · rw [List.filter_map, show (List.range k).filter ((fun x : TK × Int => !setB [brF k v] x.2) ∘ fun j : Nat => (idT (j : Int), (j : Int))) = (List.range (k - 1)).map (fun i => if i < v then i else i + 1) from by
      rw [← h2]; exact List.filter_congr fun j hj => by show (!setB _ _) = _; rw [hs j hj]]
theorem mW_op (k : Nat) (hk : k ≤ 20) : ∀ x ∈ mW k, setB [opF k] x.2 = false := by
  intro x hx
  obtain ⟨j, hj, rfl⟩ := List.mem_map.1 hx
  exact set_op k hk j (List.mem_range.1 hj)
theorem none_of {l : List SlotX} (h : l.map Prod.fst = []) : l = [] := List.map_eq_nil_iff.1 h
/-- The id at a place of the list of those who are left. -/
theorem left_id {Lk : List WaitX} {k v i : Nat} (h : Lk.map pairW = yW k v) (hi : i < k - 1) : ∃ x, Lk[i]? = some x ∧ x.1.1.id = ((if i < v then i else i + 1 : Nat) : Int) := by
  have h1 : (Lk.map pairW)[i]? = (yW k v)[i]? := by rw [h]
  have h2 : (yW k v)[i]? = some (idT ((if i < v then i else i + 1 : Nat) : Int), ((if i < v then i else i + 1 : Nat) : Int)) := by simp [yW, hi]
  rw [h2, List.getElem?_map] at h1
  cases hx : Lk[i]? with
  | none => rw [hx] at h1; cases h1
  | some x =>
    rw [hx] at h1
    refine ⟨x, rfl, ?_⟩
    have h3 : pairW x = _ := Option.some.inj h1
    have h4 := congrArg (fun p : TK × Int => p.1.id) h3
    exact h4

set_option maxRecDepth 100000 in
set_option maxHeartbeats 8000000 in
theorem walk (n lo wh : Nat) (w : World) (hn : n ≤ 255) (hlo : lo ≤ 255) (hwh : wh ≤ 255) : Calls Try.prog 13 #[.int .u8 n, .int .u8 lo, .int .u8 wh] w fun e w' => e = .returned (.bool true) ∧ Below w.heap.size w w' := by
  obtain ⟨k, hk⟩ : ∃ k, n % 10 + 1 = k := ⟨_, rfl⟩
  have hk1 : 1 ≤ k := by omega
  have hk10 : k ≤ 10 := by omega
  have ek : (n : Int) % 10 + 1 = (k : Int) := by omega
  obtain ⟨q5, hq5⟩ : ∃ q, lo % 5 = q := ⟨_, rfl⟩
  have hq55 : q5 < 5 := by omega
  have HEL : Hid ((lo : Int) % 5 = (q5 : Int)) := Lib.hid (by omega)
  obtain ⟨v, hv⟩ : ∃ v, wh % k = v := ⟨_, rfl⟩
  have hvk : v < k := by rw [← hv]; exact Nat.mod_lt _ (by omega)
  have HEV : Hid ((wh : Int) % (k : Int) = (v : Int)) := Lib.hid (by rw [← hv]; simp)
  have HQ : Hid (quotasZ [20] = [20]) := Lib.hid (by decide)
  clear hk hq5 hv
  go_enter Try.func13, Try.ntmps13
  go_wp2_with fail
  refine (known20_any w).mono ?_
  rintro e w1 ⟨rfl, hb1⟩
  have B1 := Lib.hid hb1; clear hb1
  obtain ⟨w2, hw2⟩ : ∃ w2, w2 = w1.alloc (.cells #[.int .i64 20] 3) := ⟨_, rfl⟩
  have B2 : Hid (Below w.heap.size w w2) := Lib.hid (by rw [hw2]; exact B1.out.alloc B1.out.size _)
  have HAN := Lib.hid (fuNew_any (.slice (some ⟨w1.heap.size, 0, none⟩) 1 1) [20] w2 (by rw [hw2]; exact numv_lit w1 [20]) (by simp))
  have HW2 := Lib.hid hw2
  clear hw2
  go_wp2_with fail
  rw [← HW2.out]
  with_reducible refine HAN.out.mono ?_
  rintro e w3 ⟨f, rfl, hA, hb3⟩
  rw [HQ.out] at hA
  have A3 : Hid (FuV w3 (fun b => w2.heap.size ≤ b ∧ b < w3.heap.size) f [20] [[]]) := Lib.hid hA
  have B3 := Lib.hid hb3
  clear hA hb3 HAN
  go_wp2_with fail
  refine (pkNew_any w3).mono ?_
  rintro e w4 ⟨S, a, rfl, hkk, hS, hb⟩
  have P4 := Lib.hid (pf_start B2.out A3.out B3.out hkk hS hb)
  have H0 : Hid (PfK w w4 a f [20] [opF 0] (mW 0)) := Lib.hid P4.out
  clear hkk hS hb A3 P4
  go_wp2_with fail
  try rw [ek]
  clear ek
  go_loopw [10] (fun i wr => ∃ j : Nat, j ≤ k ∧ i = .int .i64 j ∧ PfK w wr a f [20] [opF j] (mW j)) (fun i _ => k - (intOf i).toNat)
  case atStart => exact ⟨0, Nat.zero_le _, rfl, H0.out⟩
  case round =>
    clear H0
    obtain ⟨j, hj, rfl, hK⟩ := hrel
    have HK := Lib.hid hK
    by_cases hjk : j < k
    · obtain ⟨m1, m2, m3⟩ := mk_20 (opF j) (by rw [opF_len]; omega) zF
      have HM := Lib.hid (pfMake_any hK 0 0 (by decide))
      rw [show (⟨0, 0, 0, 0⟩ : FutX) = zF from rfl, m1, m2, m3, opF_len, ← opF_succ] at HM
      have hmw : (mW j).length ≤ 100000 := by rw [mW_len]; omega
      have HADD := Lib.hid (fun (w' : World) (h : PfK w w' a f [20] [opF (j + 1)] (mW j)) => pfAdd_any h hmw (idT (j : Int)) (j : Int) rfl)
      rw [← mW_succ] at HADD
      clear hK m1 m2 m3 hmw
      go_wp2_with fail
      refine HM.out.mono ?_
      rintro e w5 ⟨rfl, h5⟩
      have HA5 := Lib.hid (HADD.out w5 h5)
      clear h5
      go_wp2_with fail
      refine HA5.out.mono ?_
      rintro e w6 ⟨rfl, h6⟩
      have H6 := Lib.hid h6
      clear h6
      go_wp2_with fail
      go_roundw
      case rel => exact ⟨j + 1, by omega, by go_num, H6.out⟩
      case measure => simp [intOf]; omega
    · obtain rfl : k = j := by omega
      have H1 : Hid (PfK w wr a f [20] [opF k] (mW k)) := Lib.hid hK
      clear hK HK
      go_wp2_with fail
      go_loopw [13] (fun i wr => ∃ j : Nat, j ≤ q5 ∧ i = .int .i64 j ∧ PfK w wr a f [20] [opF k] (mW k)) (fun i _ => q5 - (intOf i).toNat)
      case atStart => exact ⟨0, Nat.zero_le _, rfl, H1.out⟩
      case round =>
        clear H1
        obtain ⟨j, hj2, rfl, hP⟩ := hrel
        have el := HEL.out
        by_cases hjq : j < q5
        · have HLK := Lib.hid (pfLook_any hP (mW_bd k (by omega)) (by rw [mW_len]; omega) 100 100 (by decide) (by decide))
          rw [mW_len, show min 100 k = k by omega] at HLK
          clear hP
          go_wp2_with fail
          refine HLK.out.mono ?_
          rintro e w5 ⟨v1, v2, L1, L2, rfl, o1, e1, o2, e2, h5⟩
          rw [List.take_of_length_le (by rw [mW_len]; exact Nat.le_refl _)] at e1 h5
          rw [List.drop_of_length_le (by rw [mW_len]; exact Nat.le_refl _)] at e2
          rw [(wk_none (mW_op k (by omega))).1] at e1
          rw [(wk_none (mW_op k (by omega))).2] at h5
          obtain rfl := none_of e1
          obtain rfl := none_of e2
          obtain ⟨A1, c1, rfl⟩ := o1.shape
          obtain ⟨A2, c2, rfl⟩ := o2.shape
          have H5 := Lib.hid h5
          have HLN5 := Lib.hid (pfLen_any h5)
          rw [mW_len] at HLN5
          rw [show ([] : List SlotX).length = 0 from rfl, show ((100 - k : Nat) : Int) = 100 - (k : Int) from by omega]
          have y1 : (100 - (k : Int) != 100 - (k : Int)) = false := bne_self_eq_false _
          have y2 : ((k : Int) != (k : Int)) = false := bne_self_eq_false _
          clear o1 o2 e1 e2 h5
          go_wp2_with fail
          refine HLN5.out.mono ?_
          rintro e _ ⟨rfl, rfl⟩
          go_wp2_with fail
          go_roundw
          case rel => exact ⟨j + 1, by omega, by go_num, H5.out⟩
          case measure => simp [intOf]; omega
        · obtain rfl : q5 = j := by omega
          have H2 := Lib.hid hP
          obtain ⟨b1, b2⟩ := end_br k (by omega) v hvk
          have HBR := Lib.hid (pfBreak_any hP (v : Int) 5 (by omega))
          rw [b1, b2] at HBR
          have ev := HEV.out
          have k0 : k ≠ 0 := by omega
          clear hP b1 b2
          go_upto_region 20 with (fail)
          rw [ev]
          clear ev el
          go_wp2_with fail
          refine HBR.out.mono ?_
          rintro e w5 ⟨rfl, h5⟩
          have HLK := Lib.hid (pfLook_any h5 (mW_bd k (by omega)) (by rw [mW_len]; omega) 100 100 (by decide) (by decide))
          rw [mW_len, show min 100 k = k by omega] at HLK
          clear h5
          go_wp2_with fail
          refine HLK.out.mono ?_
          rintro e w6 ⟨v1, v2, L1, L2, rfl, o1, e1, o2, e2, h6⟩
          rw [List.take_of_length_le (by rw [mW_len]; exact Nat.le_refl _)] at e1 h6
          rw [List.drop_of_length_le (by rw [mW_len]; exact Nat.le_refl _)] at e2
          rw [(mW_br k v hk10 hvk).1] at e1
          rw [(mW_br k v hk10 hvk).2] at h6
          obtain ⟨x1, rfl, hx1⟩ := one_of e1
          obtain rfl := none_of e2
          obtain ⟨A1, c1, rfl⟩ := o1.shape
          obtain ⟨A2, c2, rfl⟩ := o2.shape
          obtain ⟨g1, rfl, d1⟩ := own_id (j := 0) o1 rfl
          rw [hx1] at d1
          have d1' : w6.cell? ⟨g1, 0, none⟩ = some (.int .i32 (v : Int)) := d1
          have hg1 : g1 < w6.heap.size := (World.ownsRow.lt o1 g1 rfl).2
          have HAL := Lib.hid (pfAll_any h6 (by rw [yW_len]; omega))
          rw [show ([] : List SlotX).length = 0 from rfl, show ([x1] : List SlotX).length = 1 from rfl]
          clear o1 o2 e1 e2 h6 d1 hx1
          go_wp2_with fail
          refine HAL.out.mono ?_
          rintro e w7 ⟨v3, Lk, rfl, hA, hL, h7⟩
          have d7 : w7.cell? ⟨g1, 0, none⟩ = some (.int .i32 (v : Int)) := (hA.bl.cell (p := ⟨g1, 0, none⟩) hg1).trans d1'
          obtain ⟨r, hr⟩ : ∃ r, k - 1 = r := ⟨_, rfl⟩
          have hlk : Lk.length = r := by have := congrArg List.length hL; rw [List.length_map, yW_len, hr] at this; exact this
          obtain ⟨A3, c3, rfl⟩ := OwnW.shape hA.own
          have HA := Lib.hid hA
          have HLI := Lib.hid (fun i (hi : i < r) => left_id (i := i) hL (by rw [hr]; exact hi))
          have HLKN := Lib.hid hlk
          rw [hlk]
          have y1 : ((v : Int) != (v : Int)) = false := bne_self_eq_false _
          have y2 : (k : Int) - 1 = (r : Int) := by omega
          have y3 : ((r : Int) != (r : Int)) = false := bne_self_eq_false _
          have hrk : r < k := by omega
          have HB7 : Hid (Below w.heap.size w w7) := Lib.hid h7.bl
          clear hA hL h7 hlk hr d1'
          go_wp2_with fail
          have H7 : Hid (AlP w6 w7 (.slice A3 r c3) Lk Lk ∧ Below w.heap.size w w7) := Lib.hid ⟨by rw [← HLKN.out]; exact HA.out, HB7.out⟩
          clear y1 y2 y3 d7
          go_loopw [22] (fun i wr => ∃ j : Nat, j ≤ r ∧ i = .int .i64 j ∧ AlP w6 wr (.slice A3 r c3) Lk Lk ∧ Below w.heap.size w wr) (fun i _ => r - (intOf i).toNat)
          case atStart => exact ⟨0, Nat.zero_le _, rfl, H7.out⟩
          case round =>
            clear H7
            obtain ⟨j, hj3, rfl, hA, hB⟩ := hrel
            have HBB := Lib.hid (⟨hA, hB⟩ : _ ∧ _)
            by_cases hjr : j < r
            · obtain ⟨x, hx, hid⟩ := HLI.out j hjr
              obtain ⟨g, eA, d0, _⟩ := all_cell hA hx
              subst eA
              have i1 : (0 : Int) ≤ (j : Int) ∧ (j : Int) < r := by omega
              by_cases hjv : j < v
              · rw [hid, if_pos hjv] at d0
                have z1 : decide ((v : Int) ≤ (j : Int)) = false := by simp; omega
                have z2 : decide (v ≤ j) = false := by simp; omega
                have y : ((j : Int) != (j : Int)) = false := bne_self_eq_false _
                clear hA hB hx hid
                go_wp2_with fail
                go_roundw
                case rel => exact ⟨j + 1, by omega, by go_num, HBB.out⟩
                case measure => simp [intOf]; omega
              · rw [hid, if_neg hjv, show ((j + 1 : Nat) : Int) = (j : Int) + 1 from by omega] at d0
                have z1 : decide ((v : Int) ≤ (j : Int)) = true := by simp; omega
                have z2 : decide (v ≤ j) = true := by simp; omega
                have y : ((j : Int) + 1 != (j : Int) + 1) = false := bne_self_eq_false _
                clear hA hB hx hid
                go_wp2_with fail
                go_roundw
                case rel => exact ⟨j + 1, by omega, by go_num, HBB.out⟩
                case measure => simp [intOf]; omega
            · obtain rfl : r = j := by omega
              clear hA hB
              go_wp2_with fail
              go_ret
              exact ⟨rfl, HBB.out.2⟩

/- The claim. -/

set_option maxRecDepth 100000 in
theorem lifted (os : Os) (started : os.Started) (H : Type) (enc : TypeId × Value → H) :
    ReturnsInHanded {} Try.checked os 13 .any (Rows.parkStaysSpec.pre6 enc Try.prog Try.f13 Rows.parkStaysRow.domain false) (Rows.parkStaysSpec.post enc Try.prog Try.f13 false true false false) := by
  refine returnsInHanded_of_change (C := Try.checked) ownKnobs started (by kernel_rfl) Try.func13
    (ChangeSpec.witness6 (enc := enc) (C := Try.checked) false ⟨#[], #[.int .u8 0, .int .u8 0, .int .u8 0], []⟩ 8 (by kernel_rfl) (by kernel_rfl) (by kernel_rfl) (by kernel_rfl)) ?_
  intro W base args ds gs before hval hW _ _
  refine law_contract rfl rfl (fun ds h => by match ds, h with | [d1, d2, d3], _ => rfl) (by decide +kernel) hW ?_
  obtain ⟨p, q, hA0, _⟩ := hW
  have hA : DataW.TrodAll enc Try.prog W 0 (fun _ => true) true Try.f13.params.toList args.toList ds p := hA0
  have hval' : ∀ (j : Nat) t v, Try.f13.params[j]? = some t → args[j]? = some v → Value.okWide Try.prog W .any base t v := hval
  rw [Try.params13] at hA hval'
  obtain ⟨v0, vs0, d0, ds0, p0, q0, hargs, rfl, rfl, h0, r0⟩ := trodAll_cons hA
  obtain ⟨v1, vs1, d1, ds1, p1, q1, rfl, rfl, rfl, h1, r1⟩ := trodAll_cons r0
  obtain ⟨v2, vs2, d2, ds2, p2, q2, rfl, rfl, rfl, h2, r2⟩ := trodAll_cons r1
  obtain ⟨rfl, rfl, rfl⟩ := trodAll_nil r2
  obtain rfl : args = #[v0, v1, v2] := by cases args; simp_all
  obtain ⟨z0, rfl, rfl, rfl, w0⟩ := open_int Try.underlying5 (hval' 0 _ v0 rfl rfl) h0
  have b0 : 0 ≤ z0 ∧ z0 ≤ 255 := by simpa [Lit.wf, IntKind.min, IntKind.max, IntKind.signed, IntKind.bits] using w0
  obtain ⟨a0, rfl⟩ : ∃ n : Nat, z0 = n := ⟨z0.toNat, by omega⟩
  obtain ⟨z1, rfl, rfl, rfl, w1⟩ := open_int Try.underlying5 (hval' 1 _ v1 rfl rfl) h1
  have b1 : 0 ≤ z1 ∧ z1 ≤ 255 := by simpa [Lit.wf, IntKind.min, IntKind.max, IntKind.signed, IntKind.bits] using w1
  obtain ⟨a1, rfl⟩ : ∃ n : Nat, z1 = n := ⟨z1.toNat, by omega⟩
  obtain ⟨z2, rfl, rfl, rfl, w2⟩ := open_int Try.underlying5 (hval' 2 _ v2 rfl rfl) h2
  have b2 : 0 ≤ z2 ∧ z2 ≤ 255 := by simpa [Lit.wf, IntKind.min, IntKind.max, IntKind.signed, IntKind.bits] using w2
  obtain ⟨a2, rfl⟩ : ∃ n : Nat, z2 = n := ⟨z2.toNat, by omega⟩
  exact walk a0 a1 a2 W (by omega) (by omega) (by omega)

theorem proved : Rows.ParkStaysSaid :=
  OpenClaim.holds_of_wide 13 Try.f13 rfl rfl rfl rfl rfl rfl rfl ⟨rfl, rfl, rfl, rfl, rfl⟩ rfl rfl rfl rfl rfl (by kernel_rfl) Try.func13 (by kernel_rfl)
    (of_decide_eq_true (by kernel_rfl)) (by unfold Func.isWrapper; first | (rw [if_pos (by decide +kernel)]; kernel_rfl) | (rw [if_neg (by decide +kernel)]; exact ⟨rfl, rfl⟩))
    (fun os started H enc _ => lifted os started H enc)

end Go.Proofs.Ytboelofkbhgmfaa.parkStays
