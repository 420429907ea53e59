/- ParkNobody returns true for every input and changes nothing: every waiting task is woken, is starved or still waits, and each examination costs one unit of fuel. No condition. -/
import Derived.Test.YtboelofkbhgmfaaKn20
import Derived.Test.YtboelofkbhgmfaaLaw
namespace Go.Proofs.Ytboelofkbhgmfaa.parkNobody
set_option maxRecDepth 100000
open Go.RowKit Go.ChangeShapes Go.WideShapes Go.ChangeAt

/-- Those who wait: k of them. -/
def mW (k : Nat) : List (TK × Int) := (List.range k).map fun j : Nat => (idT (j : Int), (j : Int))
theorem mW_len (k : Nat) : (mW k).length = k := by simp [mW]
theorem mW_succ (k : Nat) : mW (k + 1) = mW k ++ [(idT (k : Int), (k : Int))] := by simp [mW, List.range_succ]
theorem mW_bd (k : Nat) (hk : k ≤ 1000) : ∀ x ∈ mW k, -2147483648 ≤ x.2 ∧ x.2 ≤ 2147483647 := by
  intro x hx
  obtain ⟨j, hj, rfl⟩ := List.mem_map.1 hx
  have := List.mem_range.1 hj
  show -2147483648 ≤ (j : Int) ∧ (j : Int) ≤ 2147483647
  omega
theorem mk_16 (L : List FutX) (hl : L.length < 16) (x : FutX) : mkB [16] [L] 0 = true ∧ mkId [16] [L] 0 = (L.length : Nat) ∧ mkL [16] [L] 0 x = [L ++ [x]] := by
  have h0 : mkB [16] [L] 0 = true := by simp [mkB, cntZ, quoZ]; omega
  exact ⟨h0, by unfold mkId; rw [h0]; simp [cntZ], by unfold mkL; rw [h0]; simp⟩
/-- One list of futures, i of them; i tasks wait. -/
def NbK (w wr : World) (a f i : Nat) : Prop := ∃ L : List FutX, L.length = i ∧ PfK w wr a f [16] [L] (mW i)
theorem set_one (L : List FutX) (id : Int) (f : FutX → FutX) : ∃ L', endL [L] id f = [L'] ∧ L'.length = L.length := by
  unfold endL setZ
  split
  · split
    · generalize (labelZ id).toNat = p
      match p with
      | 0 => exact ⟨_, rfl, by simp⟩
      | p + 1 => exact ⟨L, rfl, rfl⟩
    · exact ⟨L, rfl, rfl⟩
  · exact ⟨L, rfl, rfl⟩
theorem part_len {X : Type} (p : X → Bool) (l : List X) : (l.filter p).length + (l.filter fun x => !p x).length = l.length := by
  induction l with
  | nil => rfl
  | cons x l ih => cases h : p x <;> simp [List.filter_cons, h] <;> omega

set_option maxRecDepth 100000 in
set_option maxHeartbeats 8000000 in
theorem walk (n fu kp : Nat) (w : World) (hn : n ≤ 255) (hfu : fu ≤ 255) (hkp : kp ≤ 65535) : Calls Try.prog 12 #[.int .u8 n, .int .u8 fu, .int .u16 kp] w fun e w' => e = .returned (.bool true) ∧ Below w.heap.size w w' := by
  obtain ⟨k, hk⟩ : ∃ k, n % 17 = k := ⟨_, rfl⟩
  have hk17 : k < 17 := by omega
  have ek : (n : Int) % 17 = (k : Int) := by omega
  obtain ⟨F, hF⟩ : ∃ F, fu % 20 = F := ⟨_, rfl⟩
  have hF20 : F < 20 := by omega
  have eF : (fu : Int) % 20 = (F : Int) := by omega
  have HQ : Hid (quotasZ [16] = [16]) := Lib.hid (by decide)
  clear hk hF
  go_enter Try.func12, Try.ntmps12
  go_wp2_with fail
  refine (known20_any w).mono ?_
  rintro e w1 ⟨rfl, hb1⟩
  have B1 := Lib.hid hb1; clear hb1
  obtain ⟨w2, hw2⟩ : ∃ w2, w2 = w1.alloc (.cells #[.int .i64 16] 3) := ⟨_, rfl⟩
  have B2 : Hid (Below w.heap.size w w2) := Lib.hid (by rw [hw2]; exact B1.out.alloc B1.out.size _)
  have HAN := Lib.hid (fuNew_any (.slice (some ⟨w1.heap.size, 0, none⟩) 1 1) [16] w2 (by rw [hw2]; exact numv_lit w1 [16]) (by simp))
  have HW2 := Lib.hid hw2
  clear hw2
  go_wp2_with fail
  rw [← HW2.out]
  with_reducible refine HAN.out.mono ?_
  rintro e w3 ⟨f, rfl, hA, hb3⟩
  rw [HQ.out] at hA
  have A3 : Hid (FuV w3 (fun b => w2.heap.size ≤ b ∧ b < w3.heap.size) f [16] [[]]) := Lib.hid hA
  have B3 := Lib.hid hb3
  clear hA hb3 HAN
  go_wp2_with fail
  refine (pkNew_any w3).mono ?_
  rintro e w4 ⟨S, a, rfl, hkk, hS, hb⟩
  have P4 := Lib.hid (pf_start B2.out A3.out B3.out hkk hS hb)
  have H0 : Hid (NbK w w4 a f 0) := Lib.hid ⟨[], rfl, P4.out⟩
  clear hkk hS hb A3 P4
  go_wp2_with fail
  try rw [ek]
  clear ek
  go_loopw [10] (fun i wr => ∃ j : Nat, j ≤ k ∧ i = .int .i64 j ∧ NbK w wr a f j) (fun i _ => k - (intOf i).toNat)
  case atStart => exact ⟨0, Nat.zero_le _, rfl, H0.out⟩
  case round =>
    clear H0
    obtain ⟨j, hj, rfl, hK⟩ := hrel
    have HK := Lib.hid hK
    clear hK
    by_cases hjk : j < k
    · obtain ⟨L, hL, hP⟩ := HK.out
      have HL := Lib.hid hL
      obtain ⟨m1, m2, m3⟩ := mk_16 L (by omega) ⟨0, 0, 0, 0⟩
      have HM := Lib.hid (pfMake_any hP 0 0 (by decide))
      rw [m1, m2, m3, hL] at HM
      have hjm : (j : Int) % 16 = (j : Int) := by omega
      have hmw : (mW j).length ≤ 100000 := by rw [mW_len]; omega
      have HADD := Lib.hid (fun (w' : World) (L' : List FutX) (h : PfK w w' a f [16] [L'] (mW j)) => pfAdd_any h hmw (idT (j : Int)) (j : Int) rfl)
      rw [← mW_succ] at HADD
      have HL1 : Hid ((L ++ [(⟨0, 0, 0, 0⟩ : FutX)]).length = j + 1) := Lib.hid (by simp [HL.out])
      clear hL hP m1 m2 m3 hmw
      go_wp2_with fail
      refine HM.out.mono ?_
      rintro e w5 ⟨rfl, h5⟩
      have H5 := Lib.hid h5
      clear h5
      go_wp2_with fail
      · obtain ⟨L', e1, e2⟩ := set_one (L ++ [⟨0, 0, 0, 0⟩]) (j : Int) (keepF 3)
        have HKE := Lib.hid (pfKeep_any H5.out (j : Int) 3 (by omega))
        rw [e1] at HKE
        have HL2 : Hid (L'.length = j + 1) := Lib.hid (e2.trans HL1.out)
        generalize openB [L ++ [⟨0, 0, 0, 0⟩]] (j : Int) = bo at *
        clear e1 e2
        refine HKE.out.mono ?_
        rintro e w6 ⟨rfl, h6⟩
        have HA6 := Lib.hid (HADD.out w6 L' h6)
        clear h6
        go_wp2_with fail
        refine HA6.out.mono ?_
        rintro e w7 ⟨rfl, h7⟩
        have H7 : Hid (NbK w w7 a f (j + 1)) := Lib.hid ⟨L', HL2.out, h7⟩
        clear h7
        go_wp2_with fail
        go_roundw
        case rel => exact ⟨j + 1, by omega, by go_num, H7.out⟩
        case measure => simp [intOf]; omega
      · have HA6 := Lib.hid (HADD.out w5 _ H5.out)
        refine HA6.out.mono ?_
        rintro e w7 ⟨rfl, h7⟩
        have H7 : Hid (NbK w w7 a f (j + 1)) := Lib.hid ⟨_, HL1.out, h7⟩
        clear h7
        go_wp2_with fail
        go_roundw
        case rel => exact ⟨j + 1, by omega, by go_num, H7.out⟩
        case measure => simp [intOf]; omega
    · obtain rfl : k = j := by omega
      obtain ⟨L, hL, hP⟩ := HK.out
      have HLK := Lib.hid (pfLook_any hP (mW_bd k (by omega)) (by rw [mW_len]; omega) (F : Int) F (by omega) (by omega))
      rw [mW_len] at HLK
      clear hL hP
      go_wp2_with fail
      refine HLK.out.mono ?_
      rintro e w5 ⟨v1, v2, L1, L2, rfl, o1, e1, o2, e2, h5⟩
      obtain ⟨A1, c1, rfl⟩ := o1.shape
      obtain ⟨A2, c2, rfl⟩ := o2.shape
      have HLN := Lib.hid (pfLen_any h5)
      obtain ⟨p, hp⟩ : ∃ p, L1.length = p := ⟨_, rfl⟩
      obtain ⟨q, hq⟩ : ∃ q, L2.length = q := ⟨_, rfl⟩
      obtain ⟨r, hr⟩ : ∃ r, (syP [L] ((mW k).take (min F k))).length = r := ⟨_, rfl⟩
      have hs1 : p + r = min F k := by
        have h1 : p = (wkP [L] ((mW k).take (min F k))).length := by rw [← hp, ← e1, List.length_map]
        have h2 := part_len (fun x => setB [L] x.2) ((mW k).take (min F k))
        rw [List.length_take, mW_len] at h2
        unfold wkP at h1
        unfold syP at hr
        rw [List.length_map] at h1
        omega
      have hs2 : q = k - min F k := by
        have h1 := congrArg List.length e2
        rw [List.length_map, List.length_map, List.length_drop, mW_len] at h1
        omega
      have HF : Hid (Below w.heap.size w w5) := Lib.hid h5.bl
      rw [hr] at HLN
      rw [hp, hq, show ((F - min F k : Nat) : Int) = (F : Int) - ((min F k : Nat) : Int) from by omega]
      have z1 : ((p : Int) + (q : Int) + (r : Int) == (k : Int)) = true := by simp; omega
      have z2 : (if (F : Int) < (k : Int) then (F : Int) else (k : Int)) = ((min F k : Nat) : Int) := by split <;> omega
      have z2' : (if F < k then (F : Int) else (k : Int)) = ((min F k : Nat) : Int) := by split <;> omega
      have z3 : ((F : Int) - ((min F k : Nat) : Int) == (F : Int) - ((min F k : Nat) : Int)) = true := beq_self_eq_true _
      have z4 : (if (k : Int) - (F : Int) < 0 then (0 : Int) else (k : Int) - (F : Int)) = (q : Int) := by split <;> omega
      have hpb : p ≤ 100 := by omega
      have hqb : q ≤ 100 := by omega
      have hrb : r ≤ 100 := by omega
      have HLNN := Lib.hid HLN
      clear o1 o2 e1 e2 h5 hp hq hr hs1 hs2 HLN
      go_wp2_with fail
      refine HLNN.out.mono ?_
      rintro e _ ⟨rfl, rfl⟩
      go_wp2_with fail
      go_ret
      exact ⟨rfl, HF.out⟩

/- The claim. -/

set_option maxRecDepth 100000 in
theorem lifted (os : Os) (started : os.Started) (H : Type) (enc : TypeId × Value → H) :
    ReturnsInHanded {} Try.checked os 12 .any (Rows.parkNobodySpec.pre6 enc Try.prog Try.f12 Rows.parkNobodyRow.domain false) (Rows.parkNobodySpec.post enc Try.prog Try.f12 false true false false) := by
  refine returnsInHanded_of_change (C := Try.checked) ownKnobs started (by kernel_rfl) Try.func12
    (ChangeSpec.witness6 (enc := enc) (C := Try.checked) false ⟨#[], #[.int .u8 0, .int .u8 0, .int .u16 0], []⟩ 8 (by kernel_rfl) (by kernel_rfl) (by kernel_rfl) (by kernel_rfl)) ?_
  intro W base args ds gs before hval hW _ _
  refine law_contract rfl rfl (fun ds h => by match ds, h with | [d1, d2, d3], _ => rfl) (by decide +kernel) hW ?_
  obtain ⟨p, q, hA0, _⟩ := hW
  have hA : DataW.TrodAll enc Try.prog W 0 (fun _ => true) true Try.f12.params.toList args.toList ds p := hA0
  have hval' : ∀ (j : Nat) t v, Try.f12.params[j]? = some t → args[j]? = some v → Value.okWide Try.prog W .any base t v := hval
  rw [Try.params12] at hA hval'
  obtain ⟨v0, vs0, d0, ds0, p0, q0, hargs, rfl, rfl, h0, r0⟩ := trodAll_cons hA
  obtain ⟨v1, vs1, d1, ds1, p1, q1, rfl, rfl, rfl, h1, r1⟩ := trodAll_cons r0
  obtain ⟨v2, vs2, d2, ds2, p2, q2, rfl, rfl, rfl, h2, r2⟩ := trodAll_cons r1
  obtain ⟨rfl, rfl, rfl⟩ := trodAll_nil r2
  obtain rfl : args = #[v0, v1, v2] := by cases args; simp_all
  obtain ⟨z0, rfl, rfl, rfl, w0⟩ := open_int Try.underlying5 (hval' 0 _ v0 rfl rfl) h0
  have b0 : 0 ≤ z0 ∧ z0 ≤ 255 := by simpa [Lit.wf, IntKind.min, IntKind.max, IntKind.signed, IntKind.bits] using w0
  obtain ⟨a0, rfl⟩ : ∃ n : Nat, z0 = n := ⟨z0.toNat, by omega⟩
  obtain ⟨z1, rfl, rfl, rfl, w1⟩ := open_int Try.underlying5 (hval' 1 _ v1 rfl rfl) h1
  have b1 : 0 ≤ z1 ∧ z1 ≤ 255 := by simpa [Lit.wf, IntKind.min, IntKind.max, IntKind.signed, IntKind.bits] using w1
  obtain ⟨a1, rfl⟩ : ∃ n : Nat, z1 = n := ⟨z1.toNat, by omega⟩
  obtain ⟨z2, rfl, rfl, rfl, w2⟩ := open_int Try.underlying104 (hval' 2 _ v2 rfl rfl) h2
  have b2 : 0 ≤ z2 ∧ z2 ≤ 65535 := by simpa [Lit.wf, IntKind.min, IntKind.max, IntKind.signed, IntKind.bits] using w2
  obtain ⟨a2, rfl⟩ : ∃ n : Nat, z2 = n := ⟨z2.toNat, by omega⟩
  exact walk a0 a1 a2 W (by omega) (by omega) (by omega)

theorem proved : Rows.ParkNobodySaid :=
  OpenClaim.holds_of_wide 12 Try.f12 rfl rfl rfl rfl rfl rfl rfl ⟨rfl, rfl, rfl, rfl, rfl⟩ rfl rfl rfl rfl rfl (by kernel_rfl) Try.func12 (by kernel_rfl)
    (of_decide_eq_true (by kernel_rfl)) (by unfold Func.isWrapper; first | (rw [if_pos (by decide +kernel)]; kernel_rfl) | (rw [if_neg (by decide +kernel)]; exact ⟨rfl, rfl⟩))
    (fun os started H enc _ => lifted os started H enc)

end Go.Proofs.Ytboelofkbhgmfaa.parkNobody
