/- Which tables may be: by package table and by the reference. -/
import Derived.Test.YtnelaeafjejjgaaBef18
namespace Go.Proofs.Ytnelaeafjejjgaa
set_option maxRecDepth 100000
open Go.RowKit

def okX (n x : Int) : Bool := decide (0 ≤ x) && decide (x < n)
def lenOk (k : Nat) : Bool := decide (1 ≤ k) && decide (k ≤ 64)
theorem rightZ_eq (l : List Int) (n : Int) : rightZ l n = (l.all (okX n) && lenOk l.length) := rfl

set_option maxHeartbeats 1000000 in
theorem right18_any {B : Nat} {v : Value} {l : List Int} (n : Int) (w : World) (h : IntsV w B v l) (hm : l.length ≤ 1000) :
    Calls Try.prog 33 #[v, .int .i64 n] w fun e w' => e = .returned (.bool (rightZ l n)) ∧ w = w' := by
  obtain ⟨A, cp, rfl, hl⟩ := h
  have HL := Lib.hid hl; clear hl
  rw [rightZ_eq]
  obtain ⟨m, hml⟩ : ∃ m, l.length = m := ⟨_, rfl⟩
  have HM := Lib.hid hml
  rw [hml] at hm ⊢
  clear hml
  by_cases h1 : m < 1
  · have HR : Hid ((l.all (okX n) && lenOk m) = false) := Lib.hid (by rw [show lenOk m = false from by simp [lenOk]; omega, Bool.and_false])
    obtain rfl : m = 0 := by omega
    clear h1
    go_enter Try.func33, Try.ntmps33
    go_wp2_with fail
    go_ret
    exact ⟨by rw [HR.out]; rfl, rfl⟩
  have h0 : 0 < m := by omega
  by_cases h2 : 64 < m
  · have HR : Hid ((l.all (okX n) && lenOk m) = false) := Lib.hid (by rw [show lenOk m = false from by simp [lenOk]; omega, Bool.and_false])
    go_enter Try.func33, Try.ntmps33
    go_wp2_with fail
    go_ret
    exact ⟨by rw [HR.out]; rfl, rfl⟩
  · have HLO : Hid (lenOk m = true) := Lib.hid (by simp [lenOk]; omega)
    obtain ⟨res, hres⟩ : ∃ res, (l.all (okX n) && lenOk m) = res := ⟨_, rfl⟩
    have HR := Lib.hid hres
    rw [hres]
    clear hres
    go_enter Try.func33, Try.ntmps33
    go_wp2_with fail
    go_loop [17] (fun i => ∃ k : Nat, k ≤ m ∧ i = .int .i64 k ∧ (l.take k).all (okX n) = true) (fun i => m - (intOf i).toNat)
    case atStart => exact ⟨0, by omega, rfl, by simp⟩
    case round =>
      obtain ⟨k, hk, rfl, hp⟩ := hrel
      have HP := Lib.hid hp; clear hp
      by_cases hlt : k < m
      · have hkl : k < l.length := by rw [HM.out]; exact hlt
        obtain ⟨b, off, rfl, hb, c1⟩ := lie_int HL.out hkl
        obtain ⟨x, hx⟩ : ∃ x, l[k] = x := ⟨_, rfl⟩
        rw [hx] at c1
        have HXE := Lib.hid hx; clear hx
        by_cases h0 : x < 0
        · obtain rfl : res = false := by rw [← HR.out, all_no hkl (by rw [HXE.out]; simp [okX]; omega)]; rfl
          go_wp2_with fail
          go_ret
          exact ⟨rfl, rfl⟩
        by_cases h1 : n ≤ x
        · obtain rfl : res = false := by rw [← HR.out, all_no hkl (by rw [HXE.out]; simp [okX]; omega)]; rfl
          go_wp2_with fail
          go_ret
          exact ⟨rfl, rfl⟩
        have HK := Lib.hid (take_all hkl HP.out (by rw [HXE.out]; simp [okX]; omega))
        go_wp2_with fail
        go_round
        case rel => exact ⟨k + 1, by omega, by go_num, HK.out⟩
        case measure => simp [intOf]; omega
      · obtain rfl : k = m := by omega
        obtain rfl : res = true := by rw [← HR.out, all_end HM.out.symm HP.out, HLO.out]; rfl
        go_wp2_with fail
        go_ret
        exact ⟨rfl, rfl⟩

set_option maxHeartbeats 1000000 in
theorem refRight18_any {B : Nat} {v : Value} {l : List Int} (n : Int) (w : World) (h : IntsV w B v l) (hm : l.length ≤ 1000) :
    Calls Try.prog 34 #[v, .int .i64 n] w fun e w' => e = .returned (.bool (rightZ l n)) ∧ w = w' := by
  obtain ⟨A, cp, rfl, hl⟩ := h
  have HL := Lib.hid hl; clear hl
  rw [rightZ_eq]
  obtain ⟨m, hml⟩ : ∃ m, l.length = m := ⟨_, rfl⟩
  have HM := Lib.hid hml
  rw [hml] at hm ⊢
  clear hml
  obtain ⟨res, hres⟩ : ∃ res, (l.all (okX n) && lenOk m) = res := ⟨_, rfl⟩
  have HR := Lib.hid hres
  rw [hres]
  clear hres
  go_enter Try.func34, Try.ntmps34
  go_wp2_with fail
  go_loop [5] (fun i => ∃ k : Nat, k ≤ m ∧ i = .int .i64 k ∧ (l.take k).all (okX n) = true) (fun i => m - (intOf i).toNat)
  case atStart => exact ⟨0, by omega, rfl, by simp⟩
  case round =>
    obtain ⟨k, hk, rfl, hp⟩ := hrel
    have HP := Lib.hid hp; clear hp
    by_cases hlt : k < m
    · have hkl : k < l.length := by rw [HM.out]; exact hlt
      obtain ⟨b, off, rfl, hb, c1⟩ := lie_int HL.out hkl
      obtain ⟨x, hx⟩ : ∃ x, l[k] = x := ⟨_, rfl⟩
      rw [hx] at c1
      have HXE := Lib.hid hx; clear hx
      by_cases h0 : x < 0
      · obtain rfl : res = false := by rw [← HR.out, all_no hkl (by rw [HXE.out]; simp [okX]; omega)]; rfl
        go_wp2_with fail
        go_ret
        exact ⟨rfl, rfl⟩
      by_cases h1 : n ≤ x
      · obtain rfl : res = false := by rw [← HR.out, all_no hkl (by rw [HXE.out]; simp [okX]; omega)]; rfl
        go_wp2_with fail
        go_ret
        exact ⟨rfl, rfl⟩
      have HK := Lib.hid (take_all hkl HP.out (by rw [HXE.out]; simp [okX]; omega))
      go_wp2_with fail
      go_round
      case rel => exact ⟨k + 1, by omega, by go_num, HK.out⟩
      case measure => simp [intOf]; omega
    · obtain rfl : k = m := by omega
      have HRE : Hid (res = lenOk k) := Lib.hid (by rw [← HR.out, all_end HM.out.symm HP.out]; rfl)
      by_cases h1 : k < 1
      · obtain rfl : res = false := by rw [HRE.out]; simp [lenOk]; omega
        obtain rfl : k = 0 := by omega
        clear h1
        go_wp2_with fail
        go_ret
        exact ⟨rfl, rfl⟩
      · have h0 : 0 < k := by omega
        by_cases h2 : k ≤ 64
        · obtain rfl : res = true := by rw [HRE.out]; simp [lenOk]; omega
          have d1 : decide (1 ≤ k) = true := by simp; omega
          have d2 : decide ((k : Int) ≤ 64) = true := by simp; omega
          go_wp2_with fail
          go_ret
          exact ⟨rfl, rfl⟩
        · obtain rfl : res = false := by rw [HRE.out]; simp [lenOk]; omega
          have d1 : decide (1 ≤ k) = true := by simp; omega
          have d2 : decide ((k : Int) ≤ 64) = false := by simp; omega
          go_wp2_with fail
          go_ret
          exact ⟨rfl, rfl⟩

/-- The first place of c in l, or -1. -/
def findZ (l : List Int) (c : Int) : Int := match firstN (fun i => l.getD i 0 == c) l.length with
  | some i => (i : Int)
  | none => -1

set_option maxHeartbeats 1000000 in
theorem index18_any {B : Nat} {v : Value} {l : List Int} (c : Int) (w : World) (h : IntsV w B v l) (hm : l.length ≤ 1000) :
    Calls Try.prog 49 #[v, .int .i64 c] w fun e w' => (∃ z : Int, e = .returned (.int .i64 z) ∧ -1 ≤ z ∧ decide (0 ≤ z) = l.contains c) ∧ w = w' := by
  obtain ⟨A, cp, rfl, hl⟩ := h
  have HL := Lib.hid hl; clear hl
  obtain ⟨m, hml⟩ : ∃ m, l.length = m := ⟨_, rfl⟩
  have HM := Lib.hid hml
  rw [hml] at hm ⊢
  clear hml
  obtain ⟨res, hres⟩ : ∃ res, l.contains c = res := ⟨_, rfl⟩
  have HR := Lib.hid hres
  rw [hres]
  clear hres
  go_enter Try.func49, Try.ntmps49
  go_wp2_with fail
  go_loop [8] (fun i => ∃ k : Nat, k ≤ m ∧ i = .int .i64 k ∧ (l.take k).contains c = false) (fun i => m - (intOf i).toNat)
  case atStart => exact ⟨0, by omega, rfl, by simp⟩
  case round =>
    obtain ⟨k, hk, rfl, hp⟩ := hrel
    have HP := Lib.hid hp; clear hp
    by_cases hlt : k < m
    · have hkl : k < l.length := by rw [HM.out]; exact hlt
      obtain ⟨b, off, rfl, hb, c1⟩ := lie_int HL.out hkl
      have HMEM := Lib.hid (List.getElem_mem hkl)
      have HTK := Lib.hid (List.take_succ_eq_append_getElem hkl)
      obtain ⟨x, hx⟩ : ∃ x, l[k] = x := ⟨_, rfl⟩
      rw [hx] at c1 HMEM HTK
      clear hx
      by_cases hxc : c = x
      · have e1 : (c == x) = true := by simpa using hxc
        obtain rfl : res = true := by rw [← HR.out, List.contains_iff_mem, hxc]; exact HMEM.out
        clear hxc
        go_wp2_with fail
        go_ret
        exact ⟨⟨(k : Int), rfl, by omega, by simp⟩, rfl⟩
      · have e1 : (c == x) = false := by simpa using hxc
        have HK : Hid ((l.take (k + 1)).contains c = false) := Lib.hid (by rw [HTK.out]; have := HP.out; simp at this ⊢; exact ⟨this, hxc⟩)
        clear hxc
        go_wp2_with fail
        go_round
        case rel => exact ⟨k + 1, by omega, by go_num, HK.out⟩
        case measure => simp [intOf]; omega
    · obtain rfl : k = m := by omega
      obtain rfl : res = false := by rw [← HR.out]; have := HP.out; rwa [List.take_of_length_le (by rw [HM.out]; omega)] at this
      go_wp2_with fail
      go_ret
      exact ⟨⟨-1, rfl, by omega, by simp⟩, rfl⟩

set_option maxHeartbeats 1000000 in
theorem contains18_any {B : Nat} {v : Value} {l : List Int} (c : Int) (w : World) (h : IntsV w B v l) (hm : l.length ≤ 1000) :
    Calls Try.prog 46 #[v, .int .i64 c] w fun e w' => e = .returned (.bool (l.contains c)) ∧ w = w' := by
  have HI := Lib.hid (index18_any c w h hm)
  obtain ⟨A, cp, rfl, hl⟩ := h
  clear hl
  obtain ⟨res, hres⟩ : ∃ res, l.contains c = res := ⟨_, rfl⟩
  rw [hres] at HI ⊢
  clear hres
  go_enter Try.func46, Try.ntmps46
  go_wp2_with fail
  refine HI.out.mono ?_
  rintro e w' ⟨⟨z, rfl, hz, hd⟩, rfl⟩
  go_wp2_with fail
  go_ret
  exact ⟨rfl, rfl⟩

theorem has_step {l : List Int} {k : Nat} (h : ∀ j : Nat, j < k → (j : Int) ∈ l) (hk : (k : Int) ∈ l) : ∀ j : Nat, j < k + 1 → (j : Int) ∈ l := fun j hj => by
  rcases Nat.lt_or_ge j k with h1 | h1
  · exact h j h1
  · obtain rfl : j = k := by omega
    exact hk
theorem allZ_no {l : List Int} {n : Int} {k : Nat} (hr : rightZ l n = true) (h : ∀ j : Nat, j < k → (j : Int) ∈ l) (hk : (k : Int) < n) (hno : (k : Int) ∉ l) : allZ l n = false := by
  have hl := long_of_all k l h
  have := (rightZ_iff.1 hr).2.2
  rw [allZ, hr, Bool.true_and, Bool.eq_false_iff]
  intro hh
  exact hno (hasAllZ_iff.1 hh k (by omega) (by omega))
theorem allZ_yes {l : List Int} {n : Int} {k : Nat} (hr : rightZ l n = true) (h : ∀ j : Nat, j < k → (j : Int) ∈ l) (hk : n ≤ (k : Int)) : allZ l n = true := by
  rw [allZ, hr, Bool.true_and, hasAllZ_iff]
  exact fun j h1 _ => h j (by omega)

set_option maxHeartbeats 1000000 in
theorem all18_any {B : Nat} {v : Value} {l : List Int} (n : Int) (w : World) (h : IntsV w B v l) (hm : l.length ≤ 1000) :
    Calls Try.prog 35 #[v, .int .i64 n] w fun e w' => e = .returned (.bool (allZ l n)) ∧ w = w' := by
  have HRG := Lib.hid (right18_any n w h hm)
  have HC := Lib.hid (fun c => contains18_any c w h hm)
  obtain ⟨A, cp, rfl, hl⟩ := h
  clear hl
  cases hr : rightZ l n with
  | false =>
    rw [hr] at HRG
    rw [show allZ l n = false from by rw [allZ, hr]; rfl]
    clear hr hm
    go_enter Try.func35, Try.ntmps35
    go_wp2_with fail
    refine HRG.out.mono ?_
    rintro e w' ⟨rfl, rfl⟩
    go_wp2_with fail
    go_ret
    exact ⟨rfl, rfl⟩
  | true =>
    rw [hr] at HRG
    have HR := Lib.hid hr; clear hr
    have HLN := Lib.hid (fun k (h : ∀ j : Nat, j < k → (j : Int) ∈ l) => Nat.le_trans (long_of_all k l h) (rightZ_iff.1 HR.out).2.2)
    obtain ⟨res, hres⟩ : ∃ res, allZ l n = res := ⟨_, rfl⟩
    have HRES := Lib.hid hres
    rw [hres]
    clear hres hm
    generalize l.length = m at *
    go_enter Try.func35, Try.ntmps35
    go_wp2_with fail
    refine HRG.out.mono ?_
    rintro e w' ⟨rfl, rfl⟩
    go_wp2_with fail
    go_loop [11] (fun i => ∃ k : Nat, i = .int .i64 k ∧ k ≤ 64 ∧ ∀ j : Nat, j < k → (j : Int) ∈ l) (fun i => 65 - (intOf i).toNat)
    case atStart => exact ⟨0, rfl, by omega, fun j hj => by omega⟩
    case round =>
      obtain ⟨k, rfl, hk64, hj⟩ := hrel
      have HJ := Lib.hid hj; clear hj
      by_cases hkn : (k : Int) < n
      · have HCK := Lib.hid (HC.out k)
        cases hc : l.contains (k : Int) with
        | false =>
          rw [hc] at HCK
          obtain rfl : res = false := by rw [← HRES.out]; exact allZ_no HR.out HJ.out hkn (by simpa using hc)
          clear hc
          go_wp2_with fail
          refine HCK.out.mono ?_
          rintro e w' ⟨rfl, rfl⟩
          go_wp2_with fail
          go_ret
          exact ⟨rfl, rfl⟩
        | true =>
          rw [hc] at HCK
          have HJ2 := Lib.hid (has_step HJ.out (by simpa using hc))
          have H64 := HLN.out (k + 1) HJ2.out
          clear hc
          go_wp2_with fail
          refine HCK.out.mono ?_
          rintro e w' ⟨rfl, rfl⟩
          go_wp2_with fail
          go_round
          case rel => exact ⟨k + 1, by go_num, H64, HJ2.out⟩
          case measure => simp [intOf]; omega
      · obtain rfl : res = true := by rw [← HRES.out]; exact allZ_yes HR.out HJ.out (by omega)
        go_wp2_with fail
        go_ret
        exact ⟨rfl, rfl⟩

set_option maxHeartbeats 1000000 in
theorem refAll18_any {B : Nat} {v : Value} {l : List Int} (n : Int) (w : World) (h : IntsV w B v l) (hm : l.length ≤ 1000) :
    Calls Try.prog 36 #[v, .int .i64 n] w fun e w' => e = .returned (.bool (allZ l n)) ∧ w = w' := by
  have HRG := Lib.hid (refRight18_any n w h hm)
  obtain ⟨A, cp, rfl, hl⟩ := h
  have HL := Lib.hid hl; clear hl
  obtain ⟨m, hml⟩ : ∃ m, l.length = m := ⟨_, rfl⟩
  have HM := Lib.hid hml
  rw [hml] at hm HRG ⊢
  clear hml
  obtain ⟨rr, hr⟩ : ∃ rr, rightZ l n = rr := ⟨_, rfl⟩
  have HR := Lib.hid hr
  rw [hr] at HRG
  clear hr
  obtain ⟨res, hres⟩ : ∃ res, allZ l n = res := ⟨_, rfl⟩
  have HRES := Lib.hid hres
  rw [hres]
  clear hres
  go_enter Try.func36, Try.ntmps36
  go_wp2_with fail
  go_loop [5] (fun i => ∃ k : Nat, i = .int .i64 k ∧ k ≤ 65 ∧ ∀ j : Nat, j < k → (j : Int) ∈ l) (fun i => 65 - (intOf i).toNat)
  case atStart => exact ⟨0, rfl, by omega, fun j hj => by omega⟩
  case round =>
    obtain ⟨k, rfl, hk65, hj⟩ := hrel
    have HJ := Lib.hid hj; clear hj
    by_cases hkn : (k : Int) < n
    · by_cases hk : k < 65
      · go_wp2_with fail
        go_loop [6, 7] (fun b i => ∃ j : Nat, j ≤ m ∧ i = .int .i64 j ∧ b = .bool ((l.take j).contains (k : Int))) (fun _ i => m - (intOf i).toNat)
        case atStart => exact ⟨0, by omega, rfl, by simp⟩
        case round =>
          obtain ⟨j, hj, rfl, rfl⟩ := hrel
          by_cases hlt : j < m
          · have hjl : j < l.length := by rw [HM.out]; exact hlt
            obtain ⟨b, off, rfl, hb, c1⟩ := lie_int HL.out hjl
            have HTK := Lib.hid (List.take_succ_eq_append_getElem hjl)
            obtain ⟨x, hx⟩ : ∃ x, l[j] = x := ⟨_, rfl⟩
            rw [hx] at c1 HTK
            clear hx
            have HS : Hid ((l.take (j + 1)).contains (k : Int) = ((l.take j).contains (k : Int) || x == (k : Int))) := Lib.hid (by
              rw [HTK.out, Bool.eq_iff_iff, List.contains_iff_mem, Bool.or_eq_true, List.contains_iff_mem, List.mem_append, List.mem_singleton, beq_iff_eq]
              exact ⟨fun h => h.imp id Eq.symm, fun h => h.imp id Eq.symm⟩)
            obtain ⟨y, hy⟩ : ∃ y, (l.take j).contains (k : Int) = y := ⟨_, rfl⟩
            rw [hy] at HS ⊢
            clear hy HTK
            cases y with
            | true =>
              have HS2 : Hid ((l.take (j + 1)).contains (k : Int) = true) := Lib.hid (by rw [HS.out]; rfl)
              clear HS
              go_wp2_with fail
              go_round
              case rel => exact ⟨j + 1, by omega, by go_num, by rw [HS2.out]⟩
              case measure => simp [intOf]; omega
            | false =>
              obtain ⟨y2, hy2⟩ : ∃ y2, (x == (k : Int)) = y2 := ⟨_, rfl⟩
              rw [hy2] at HS
              have HS2 : Hid ((l.take (j + 1)).contains (k : Int) = y2) := Lib.hid (by rw [HS.out]; cases y2 <;> rfl)
              clear HS
              go_wp2_with fail
              go_round
              case rel => exact ⟨j + 1, by omega, by go_num, by rw [HS2.out]⟩
              case measure => simp [intOf]; omega
          · obtain rfl : j = m := by omega
            have HT : Hid (l.take j = l) := Lib.hid (List.take_of_length_le (by rw [HM.out]; omega))
            rw [HT.out]
            cases hc : l.contains (k : Int) with
            | false =>
              obtain rfl : res = false := by
                rw [← HRES.out, allZ, Bool.and_eq_false_iff]
                right
                rw [Bool.eq_false_iff]
                intro hh
                have := hasAllZ_iff.1 hh k (by omega) hk
                rw [← List.contains_iff_mem, hc] at this
                cases this
              clear hc
              go_wp2_with fail
              go_ret
              exact ⟨rfl, rfl⟩
            | true =>
              have HJ2 := Lib.hid (has_step HJ.out (by simpa using hc))
              clear hc
              go_wp2_with fail
              go_round
              case rel => exact ⟨k + 1, by go_num, by omega, HJ2.out⟩
              case measure => simp [intOf]; omega
      · obtain rfl : k = 65 := by omega
        have HNO : Hid (rr = false) := Lib.hid (by
          rw [← HR.out, Bool.eq_false_iff]
          intro hh
          have h1 := long_of_all 65 l HJ.out
          have := (rightZ_iff.1 hh).2.2
          omega)
        obtain rfl : rr = false := HNO.out
        obtain rfl : res = false := by rw [← HRES.out, allZ, HR.out]; rfl
        rw [show ((65 : Nat) : Int) = 65 from rfl] at hkn ⊢
        go_wp2_with fail
        refine HRG.out.mono ?_
        rintro e w' ⟨rfl, rfl⟩
        go_wp2_with fail
        go_ret
        exact ⟨rfl, rfl⟩
    · have HRE : Hid (res = rr) := Lib.hid (by
        rw [← HRES.out, ← HR.out]
        cases hh : rightZ l n with
        | false => rw [allZ, hh]; rfl
        | true => exact allZ_yes hh HJ.out (by omega))
      obtain rfl : res = rr := HRE.out
      go_wp2_with fail
      refine HRG.out.mono ?_
      rintro e w' ⟨rfl, rfl⟩
      go_wp2_with fail
      go_ret
      exact ⟨rfl, rfl⟩

end Go.Proofs.Ytnelaeafjejjgaa
