/- Small; antisymmetric, transitive: by the program and by the reference. -/
import Derived.Test.YtidjohhnggpibaaProps
namespace Go.Proofs.Ytidjohhnggpibaa
open Go.RowKit

theorem anti_row {Z : Nat → Nat → Bool} {a b : Nat} (hb : b < a) (h : (Z a b && Z b a) = true) : (allB a fun b => !(Z a b && Z b a)) = false := allB_no hb (by simp [h])
theorem trans_no {n a b c : Nat} {Z : Nat → Nat → Bool} (ha : a < n) (hb : b < n) (hc : c < n) (h : (Z a b && Z b c && !Z a c) = true) : transZ n Z = false :=
  allB_no ha (allB_no hb (allB_no hc (by simp [h])))

set_option maxHeartbeats 2000000 in
theorem anti_any {B : Nat} {v : Value} {T : List (List Bool)} (w : World) (h : TabV w B v T) :
    Calls Try.prog 34 #[v] w fun e w' => e = .returned (.bool (antiB T)) ∧ w = w' := by
  have hq := sq_any w h
  unfold antiB
  cases hs : sqB T with
  | false =>
    rw [hs] at hq; clear h hs
    rw [Bool.false_and]
    go_enter Try.func34, Try.ntmps34
    go_wp2_with fail
    refine hq.mono ?_
    rintro e w' ⟨rfl, rfl⟩
    go_wp2_with fail
    go_ret
    exact ⟨rfl, rfl⟩
  | true =>
    rw [hs] at hq
    obtain ⟨h1, h2, b, off, c, G, O, C, rfl, hg⟩ := grid_of h hs
    clear h hs
    rw [Bool.true_and]
    generalize T.length = n at *
    generalize atT T = Z at *
    generalize hres : antiZ n Z = res
    have HR := Lib.hid hres; clear hres
    have HG := Lib.hid hg; clear hg
    go_enter Try.func34, Try.ntmps34
    go_wp2_with fail
    refine hq.mono ?_
    rintro e w' ⟨rfl, rfl⟩
    clear hq
    go_wp2_with fail
    go_loop [10] (fun i => ∃ k : Nat, k ≤ n ∧ i = .int .i64 k ∧ ∀ a, a < k → (allB a fun b => !(Z a b && Z b a)) = true) (fun i => n - (intOf i).toNat)
    case atStart => exact ⟨0, by omega, rfl, fun a ha => by omega⟩
    case round =>
      obtain ⟨k, hk, rfl, hp⟩ := hrel
      have HP := Lib.hid hp; clear hp
      by_cases hlt : k < n
      · go_wp2_with fail
        go_loop [14] (fun i => ∃ j : Nat, j ≤ k ∧ i = .int .i64 j ∧ ∀ a, a < j → (!(Z k a && Z a k)) = true) (fun i => k - (intOf i).toNat)
        case atStart => exact ⟨0, by omega, rfl, fun a ha => by omega⟩
        case round =>
          obtain ⟨j, hj, rfl, hp⟩ := hrel
          have HP2 := Lib.hid hp; clear hp
          by_cases hjk : j < k
          · have hjn : j < n := by omega
            have c1 := HG.out.top k hlt
            have c2 := HG.out.cel k j hlt hjn
            have c3 := HG.out.top j hjn
            have c4 := HG.out.cel j k hjn hlt
            cases hz : (Z k j && Z j k) with
            | true =>
              obtain ⟨z1, z2⟩ : Z k j = true ∧ Z j k = true := by simpa using hz
              rw [z1] at c2
              rw [z2] at c4
              obtain rfl : res = false := HR.out ▸ allB_no hlt (anti_row hjk hz)
              clear hz z1 z2
              go_wp2_with fail
              go_ret
              exact ⟨rfl, rfl⟩
            | false =>
              have HZ := Lib.hid hz
              cases z1 : Z k j with
              | false =>
                rw [z1] at c2
                clear hz z1
                go_wp2_with fail
                go_round
                case rel => exact ⟨j + 1, by omega, by go_num, all_next HP2.out (by rw [HZ.out]; rfl)⟩
                case measure => simp [intOf]; omega
              | true =>
                have z2 : Z j k = false := by rw [z1] at hz; simpa using hz
                rw [z1] at c2
                rw [z2] at c4
                clear hz z1 z2
                go_wp2_with fail
                go_round
                case rel => exact ⟨j + 1, by omega, by go_num, all_next HP2.out (by rw [HZ.out]; rfl)⟩
                case measure => simp [intOf]; omega
          · obtain rfl : j = k := by omega
            have HK := Lib.hid (all_next HP.out (allB_iff.2 HP2.out))
            go_wp2_with fail
            go_round
            case rel => exact ⟨j + 1, by omega, by go_num, HK.out⟩
            case measure => simp [intOf]; omega
      · obtain rfl : k = n := by omega
        obtain rfl : res = true := HR.out ▸ allB_iff.2 HP.out
        go_wp2_with fail
        go_ret
        exact ⟨rfl, rfl⟩

set_option maxHeartbeats 2000000 in
theorem refAnti_any {B : Nat} {v : Value} {T : List (List Bool)} (w : World) (h : TabV w B v T) :
    Calls Try.prog 42 #[v] w fun e w' => e = .returned (.bool (antiB T)) ∧ w = w' := by
  have hq := refSq_any w h
  unfold antiB
  cases hs : sqB T with
  | false =>
    rw [hs] at hq; clear hs
    obtain ⟨A, c, rs, rfl, rfl, hL, hr⟩ := h
    clear hL hr
    generalize rs.length = n at *
    rw [Bool.false_and]
    have HQ := Lib.hid hq; clear hq
    by_cases hn : 0 < n
    all_goals
      go_enter Try.func42, Try.ntmps42
      go_wp2_with fail
      go_loop [3] (fun i => i = .int .i64 0) (fun _ => 0)
      case atStart => rfl
      case round =>
        obtain rfl := hrel
        go_wp2_with (refine HQ.out.mono ?_; rintro e w' ⟨rfl, rfl⟩)
        go_ret
        exact ⟨rfl, rfl⟩
  | true =>
    rw [hs] at hq
    obtain ⟨h1, h2, b, off, c, G, O, C, rfl, hg⟩ := grid_of h hs
    clear h hs
    rw [Bool.true_and]
    generalize T.length = n at *
    generalize atT T = Z at *
    generalize hres : antiZ n Z = res
    have HR := Lib.hid hres; clear hres
    have HG := Lib.hid hg; clear hg
    have HQ := Lib.hid hq; clear hq
    go_enter Try.func42, Try.ntmps42
    go_wp2_with fail
    go_loop [3] (fun i => ∃ k : Nat, k ≤ n ∧ i = .int .i64 k ∧ ∀ a, a < k → (allB a fun b => !(Z a b && Z b a)) = true) (fun i => n - (intOf i).toNat)
    case atStart => exact ⟨0, by omega, rfl, fun a ha => by omega⟩
    case round =>
      obtain ⟨k, hk, rfl, hp⟩ := hrel
      have HP := Lib.hid hp; clear hp
      by_cases hlt : k < n
      · go_wp2_with (refine HQ.out.mono ?_; rintro e w' ⟨rfl, rfl⟩)
        go_loop [4] (fun i => ∃ j : Nat, j ≤ k ∧ i = .int .i64 j ∧ ∀ a, a < j → (!(Z k a && Z a k)) = true) (fun i => k - (intOf i).toNat)
        case atStart => exact ⟨0, by omega, rfl, fun a ha => by omega⟩
        case round =>
          obtain ⟨j, hj, rfl, hp⟩ := hrel
          have HP2 := Lib.hid hp; clear hp
          by_cases hjk : j < k
          · have hjn : j < n := by omega
            have c1 := HG.out.top k hlt
            have c2 := HG.out.cel k j hlt hjn
            have c3 := HG.out.top j hjn
            have c4 := HG.out.cel j k hjn hlt
            cases hz : (Z k j && Z j k) with
            | true =>
              obtain ⟨z1, z2⟩ : Z k j = true ∧ Z j k = true := by simpa using hz
              rw [z1] at c2
              rw [z2] at c4
              obtain rfl : res = false := HR.out ▸ allB_no hlt (anti_row hjk hz)
              clear hz z1 z2
              go_wp2_with fail
              go_ret
              exact ⟨rfl, rfl⟩
            | false =>
              have HZ := Lib.hid hz
              cases z1 : Z k j with
              | false =>
                rw [z1] at c2
                clear hz z1
                go_wp2_with fail
                go_round
                case rel => exact ⟨j + 1, by omega, by go_num, all_next HP2.out (by rw [HZ.out]; rfl)⟩
                case measure => simp [intOf]; omega
              | true =>
                have z2 : Z j k = false := by rw [z1] at hz; simpa using hz
                rw [z1] at c2
                rw [z2] at c4
                clear hz z1 z2
                go_wp2_with fail
                go_round
                case rel => exact ⟨j + 1, by omega, by go_num, all_next HP2.out (by rw [HZ.out]; rfl)⟩
                case measure => simp [intOf]; omega
          · obtain rfl : j = k := by omega
            have HK := Lib.hid (all_next HP.out (allB_iff.2 HP2.out))
            go_wp2_with fail
            go_round
            case rel => exact ⟨j + 1, by omega, by go_num, HK.out⟩
            case measure => simp [intOf]; omega
      · obtain rfl : k = n := by omega
        obtain rfl : res = true := HR.out ▸ allB_iff.2 HP.out
        go_wp2_with (refine HQ.out.mono ?_; rintro e w' ⟨rfl, rfl⟩)
        go_ret
        exact ⟨rfl, rfl⟩

set_option maxHeartbeats 2000000 in
theorem trans_any {B : Nat} {v : Value} {T : List (List Bool)} (w : World) (h : TabV w B v T) :
    Calls Try.prog 35 #[v] w fun e w' => e = .returned (.bool (transB T)) ∧ w = w' := by
  have hq := sq_any w h
  unfold transB
  cases hs : sqB T with
  | false =>
    rw [hs] at hq; clear h hs
    rw [Bool.false_and]
    go_enter Try.func35, Try.ntmps35
    go_wp2_with fail
    refine hq.mono ?_
    rintro e w' ⟨rfl, rfl⟩
    go_wp2_with fail
    go_ret
    exact ⟨rfl, rfl⟩
  | true =>
    rw [hs] at hq
    obtain ⟨h1, h2, b, off, c, G, O, C, rfl, hg⟩ := grid_of h hs
    clear h hs
    rw [Bool.true_and]
    generalize T.length = n at *
    generalize atT T = Z at *
    generalize hres : transZ n Z = res
    have HR := Lib.hid hres; clear hres
    have HG := Lib.hid hg; clear hg
    go_enter Try.func35, Try.ntmps35
    go_wp2_with fail
    refine hq.mono ?_
    rintro e w' ⟨rfl, rfl⟩
    clear hq
    go_wp2_with fail
    go_loop [11] (fun i => ∃ k : Nat, k ≤ n ∧ i = .int .i64 k ∧ ∀ a, a < k → (allB n fun b => allB n fun c => !(Z a b && Z b c && !Z a c)) = true) (fun i => n - (intOf i).toNat)
    case atStart => exact ⟨0, by omega, rfl, fun a ha => by omega⟩
    case round =>
      obtain ⟨x, hx, rfl, hp⟩ := hrel
      have HP := Lib.hid hp; clear hp
      by_cases hxn : x < n
      · go_wp2_with fail
        go_loop [16] (fun i => ∃ k : Nat, k ≤ n ∧ i = .int .i64 k ∧ ∀ b, b < k → (allB n fun c => !(Z x b && Z b c && !Z x c)) = true) (fun i => n - (intOf i).toNat)
        case atStart => exact ⟨0, by omega, rfl, fun a ha => by omega⟩
        case round =>
          obtain ⟨y, hy, rfl, hp⟩ := hrel
          have HP2 := Lib.hid hp; clear hp
          by_cases hyn : y < n
          · go_wp2_with fail
            go_loop [21] (fun i => ∃ k : Nat, k ≤ n ∧ i = .int .i64 k ∧ ∀ c, c < k → (!(Z x y && Z y c && !Z x c)) = true) (fun i => n - (intOf i).toNat)
            case atStart => exact ⟨0, by omega, rfl, fun a ha => by omega⟩
            case round =>
              obtain ⟨z, hzk, rfl, hp⟩ := hrel
              have HP3 := Lib.hid hp; clear hp
              by_cases hzn : z < n
              · have c1 := HG.out.top x hxn
                have c2 := HG.out.cel x y hxn hyn
                have c3 := HG.out.top y hyn
                have c4 := HG.out.cel y z hyn hzn
                have c5 := HG.out.cel x z hxn hzn
                cases hz : (Z x y && Z y z && !Z x z) with
                | true =>
                  obtain ⟨⟨z1, z2⟩, z3⟩ : (Z x y = true ∧ Z y z = true) ∧ Z x z = false := by simpa using hz
                  rw [z1] at c2
                  rw [z2] at c4
                  rw [z3] at c5
                  obtain rfl : res = false := HR.out ▸ trans_no hxn hyn hzn hz
                  clear hz z1 z2 z3
                  go_wp2_with fail
                  go_ret
                  exact ⟨rfl, rfl⟩
                | false =>
                  have HZ := Lib.hid (show (!(Z x y && Z y z && !Z x z)) = true from by rw [hz]; rfl)
                  obtain ⟨zA, hA⟩ : ∃ q, Z x y = q := ⟨_, rfl⟩
                  obtain ⟨zB, hB⟩ : ∃ q, Z y z = q := ⟨_, rfl⟩
                  obtain ⟨zC, hC⟩ : ∃ q, Z x z = q := ⟨_, rfl⟩
                  rw [hA] at c2
                  rw [hB] at c4
                  rw [hC] at c5
                  have HQ3 := Lib.hid (show (zA && zB && !zC) = false from by rw [← hA, ← hB, ← hC]; exact hz)
                  clear hz hA hB hC
                  cases zA with
                  | false =>
                    go_wp2_with fail
                    go_round
                    case rel => exact ⟨z + 1, by omega, by go_num, all_next HP3.out HZ.out⟩
                    case measure => simp [intOf]; omega
                  | true =>
                    cases zB with
                    | false =>
                      go_wp2_with fail
                      go_round
                      case rel => exact ⟨z + 1, by omega, by go_num, all_next HP3.out HZ.out⟩
                      case measure => simp [intOf]; omega
                    | true =>
                      cases zC with
                      | false => exact absurd HQ3.out (by decide)
                      | true =>
                        go_wp2_with fail
                        go_round
                        case rel => exact ⟨z + 1, by omega, by go_num, all_next HP3.out HZ.out⟩
                        case measure => simp [intOf]; omega
              · obtain rfl : z = n := by omega
                have HK := Lib.hid (all_next HP2.out (allB_iff.2 HP3.out))
                go_wp2_with fail
                go_round
                case rel => exact ⟨y + 1, by omega, by go_num, HK.out⟩
                case measure => simp [intOf]; omega
          · obtain rfl : y = n := by omega
            have HK := Lib.hid (all_next HP.out (allB_iff.2 HP2.out))
            go_wp2_with fail
            go_round
            case rel => exact ⟨x + 1, by omega, by go_num, HK.out⟩
            case measure => simp [intOf]; omega
      · obtain rfl : x = n := by omega
        obtain rfl : res = true := HR.out ▸ allB_iff.2 HP.out
        go_wp2_with fail
        go_ret
        exact ⟨rfl, rfl⟩

set_option maxHeartbeats 2000000 in
theorem refTrans_any {B : Nat} {v : Value} {T : List (List Bool)} (w : World) (h : TabV w B v T) :
    Calls Try.prog 43 #[v] w fun e w' => e = .returned (.bool (transB T)) ∧ w = w' := by
  have hq := refSq_any w h
  unfold transB
  cases hs : sqB T with
  | false =>
    rw [hs] at hq; clear hs
    obtain ⟨A, c, rs, rfl, rfl, hL, hr⟩ := h
    clear hL hr
    generalize rs.length = n at *
    rw [Bool.false_and]
    have HQ := Lib.hid hq; clear hq
    by_cases hn : 0 < n
    all_goals
      go_enter Try.func43, Try.ntmps43
      go_wp2_with fail
      go_loop [3] (fun i => i = .int .i64 0) (fun _ => 0)
      case atStart => rfl
      case round =>
        obtain rfl := hrel
        go_wp2_with (refine HQ.out.mono ?_; rintro e w' ⟨rfl, rfl⟩)
        go_ret
        exact ⟨rfl, rfl⟩
  | true =>
    rw [hs] at hq
    obtain ⟨h1, h2, b, off, c, G, O, C, rfl, hg⟩ := grid_of h hs
    clear h hs
    rw [Bool.true_and]
    generalize T.length = n at *
    generalize atT T = Z at *
    generalize hres : transZ n Z = res
    have HR := Lib.hid hres; clear hres
    have HG := Lib.hid hg; clear hg
    have HQ := Lib.hid hq; clear hq
    go_enter Try.func43, Try.ntmps43
    go_wp2_with fail
    go_loop [3] (fun i => ∃ k : Nat, k ≤ n ∧ i = .int .i64 k ∧ ∀ a, a < k → (allB n fun b => allB n fun c => !(Z a b && Z b c && !Z a c)) = true) (fun i => n - (intOf i).toNat)
    case atStart => exact ⟨0, by omega, rfl, fun a ha => by omega⟩
    case round =>
      obtain ⟨x, hx, rfl, hp⟩ := hrel
      have HP := Lib.hid hp; clear hp
      by_cases hxn : x < n
      · go_wp2_with (refine HQ.out.mono ?_; rintro e w' ⟨rfl, rfl⟩)
        go_loop [4] (fun i => ∃ k : Nat, k ≤ n ∧ i = .int .i64 k ∧ ∀ b, b < k → (allB n fun c => !(Z x b && Z b c && !Z x c)) = true) (fun i => n - (intOf i).toNat)
        case atStart => exact ⟨0, by omega, rfl, fun a ha => by omega⟩
        case round =>
          obtain ⟨y, hy, rfl, hp⟩ := hrel
          have HP2 := Lib.hid hp; clear hp
          by_cases hyn : y < n
          · go_wp2_with fail
            go_loop [5] (fun i => ∃ k : Nat, k ≤ n ∧ i = .int .i64 k ∧ ∀ c, c < k → (!(Z x y && Z y c && !Z x c)) = true) (fun i => n - (intOf i).toNat)
            case atStart => exact ⟨0, by omega, rfl, fun a ha => by omega⟩
            case round =>
              obtain ⟨z, hzk, rfl, hp⟩ := hrel
              have HP3 := Lib.hid hp; clear hp
              by_cases hzn : z < n
              · have c1 := HG.out.top x hxn
                have c2 := HG.out.cel x y hxn hyn
                have c3 := HG.out.top y hyn
                have c4 := HG.out.cel y z hyn hzn
                have c5 := HG.out.cel x z hxn hzn
                cases hz : (Z x y && Z y z && !Z x z) with
                | true =>
                  obtain ⟨⟨z1, z2⟩, z3⟩ : (Z x y = true ∧ Z y z = true) ∧ Z x z = false := by simpa using hz
                  rw [z1] at c2
                  rw [z2] at c4
                  rw [z3] at c5
                  obtain rfl : res = false := HR.out ▸ trans_no hxn hyn hzn hz
                  clear hz z1 z2 z3
                  go_wp2_with fail
                  go_ret
                  exact ⟨rfl, rfl⟩
                | false =>
                  have HZ := Lib.hid (show (!(Z x y && Z y z && !Z x z)) = true from by rw [hz]; rfl)
                  obtain ⟨zA, hA⟩ : ∃ q, Z x y = q := ⟨_, rfl⟩
                  obtain ⟨zB, hB⟩ : ∃ q, Z y z = q := ⟨_, rfl⟩
                  obtain ⟨zC, hC⟩ : ∃ q, Z x z = q := ⟨_, rfl⟩
                  rw [hA] at c2
                  rw [hB] at c4
                  rw [hC] at c5
                  have HQ3 := Lib.hid (show (zA && zB && !zC) = false from by rw [← hA, ← hB, ← hC]; exact hz)
                  clear hz hA hB hC
                  cases zA with
                  | false =>
                    go_wp2_with fail
                    go_round
                    case rel => exact ⟨z + 1, by omega, by go_num, all_next HP3.out HZ.out⟩
                    case measure => simp [intOf]; omega
                  | true =>
                    cases zB with
                    | false =>
                      go_wp2_with fail
                      go_round
                      case rel => exact ⟨z + 1, by omega, by go_num, all_next HP3.out HZ.out⟩
                      case measure => simp [intOf]; omega
                    | true =>
                      cases zC with
                      | false => exact absurd HQ3.out (by decide)
                      | true =>
                        go_wp2_with fail
                        go_round
                        case rel => exact ⟨z + 1, by omega, by go_num, all_next HP3.out HZ.out⟩
                        case measure => simp [intOf]; omega
              · obtain rfl : z = n := by omega
                have HK := Lib.hid (all_next HP2.out (allB_iff.2 HP3.out))
                go_wp2_with fail
                go_round
                case rel => exact ⟨y + 1, by omega, by go_num, HK.out⟩
                case measure => simp [intOf]; omega
          · obtain rfl : y = n := by omega
            have HK := Lib.hid (all_next HP.out (allB_iff.2 HP2.out))
            go_wp2_with fail
            go_round
            case rel => exact ⟨x + 1, by omega, by go_num, HK.out⟩
            case measure => simp [intOf]; omega
      · obtain rfl : x = n := by omega
        obtain rfl : res = true := HR.out ▸ allB_iff.2 HP.out
        go_wp2_with (refine HQ.out.mono ?_; rintro e w' ⟨rfl, rfl⟩)
        go_ret
        exact ⟨rfl, rfl⟩

end Go.Proofs.Ytidjohhnggpibaa
