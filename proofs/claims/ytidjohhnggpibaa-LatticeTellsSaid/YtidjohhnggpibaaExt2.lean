/- Least and Greatest, by the reference. -/
import Derived.Test.YtidjohhnggpibaaExt
namespace Go.Proofs.Ytidjohhnggpibaa
open Go.RowKit

theorem below_drewN {B : Nat} {a w : World} (h : Below B a w) (n : Nat) : Below B a (w.drewN n) := ⟨h.os, h.tape, h.output, h.size, h.block⟩
theorem refAll_some {T : List (List Bool)} {l : List Int} (h : 0 < l.length) : refAll T l = allIn T l := by
  unfold refAll allIn inT
  cases sqB T with
  | true => simp [h]
  | false =>
    cases l with
    | nil => simp at h
    | cons x l => simp

set_option maxHeartbeats 2000000 in
theorem refLeast_no {v lv : Value} {T : List (List Bool)} {l : List Int} (w : World) (h : TabV w w.heap.size v T) (hl : IntsV w w.heap.size lv l) (hm : l.length ≤ 1000) (hno : allIn T l = false) :
    Calls Try.prog 44 #[v, lv] w (Found w none) := by
  have hq := all_any w h hl hm
  obtain ⟨A, c, rfl, hl⟩ := hl
  clear h hl
  generalize hml : l.length = m at *
  by_cases hpos : 0 < m
  · rw [refAll_some (by omega), hno] at hq
    clear hno hml
    have HQ := Lib.hid hq; clear hq
    go_enter Try.func44, Try.ntmps44
    go_wp2_with fail
    go_loop [6] (fun i => i = .int .i64 0) (fun _ => 0)
    case atStart => rfl
    case round =>
      obtain rfl := hrel
      go_wp2_with (refine HQ.out.mono ?_; rintro e w' ⟨rfl, rfl⟩)
      go_ret2
      exact ⟨rfl, Below.refl _ _⟩
  · clear hq hno hml
    obtain rfl : m = 0 := by omega
    go_enter Try.func44, Try.ntmps44
    go_wp2_with fail
    go_loop [6] (fun i => i = .int .i64 0) (fun _ => 0)
    case atStart => rfl
    case round =>
      obtain rfl := hrel
      go_wp2_with fail
      go_ret2
      exact ⟨rfl, Below.refl _ _⟩

set_option maxHeartbeats 4000000 in
theorem refLeast_any {v lv : Value} {T : List (List Bool)} {l : List Int} (w : World) (h : TabV w w.heap.size v T) (hl : IntsV w w.heap.size lv l) (hm : l.length ≤ 1000) :
    Calls Try.prog 44 #[v, lv] w (Found w (leastT T l)) := by
  cases hin : allIn T l with
  | false => rw [leastT_no hin]; exact refLeast_no w h hl hm hin
  | true =>
    obtain ⟨ha, hs⟩ := allIn_iff.1 hin
    obtain ⟨l, rfl, hln⟩ := nats_of ha
    rw [nats_length] at hm
    rw [least_yes hin]
    have hq : ∀ wr, Below w.heap.size w wr → 0 < l.length → Calls Try.prog 59 #[v, lv] wr fun e w' => e = .returned (.bool true) ∧ wr = w' := fun wr hb hp => by
      have := all_any wr (h.below hb) (hl.below hb) (by rw [nats_length]; exact hm)
      rwa [refAll_some (by rw [nats_length]; exact hp), hin] at this
    obtain ⟨h1, h2, bk, off, c, G, O, C, rfl, hg⟩ := grid_of h hs
    clear h hs ha hin
    generalize T.length = n at *
    generalize atT T = Z at *
    obtain ⟨A, c1, rfl, hl⟩ := hl
    rw [nats_length] at hq ⊢
    generalize hres : firstZ Z l = res
    have HG := Lib.hid hg; clear hg
    have HL := Lib.hid hl; clear hl
    have HX := Lib.hid hln; clear hln
    have HR := Lib.hid hres; clear hres
    have HQ := Lib.hid hq; clear hq
    generalize hml : l.length = m at *
    have HM := Lib.hid hml; clear hml
    go_enter Try.func44, Try.ntmps44
    go_wp2_with fail
    go_loopw [6] (fun i wr => ∃ k : Nat, k ≤ m ∧ i = .int .i64 k ∧ (∀ a ∈ l.take k, (l.all fun y => Z a y) = false) ∧ Below w.heap.size w wr) (fun i _ => m - (intOf i).toNat)
    case atStart => exact ⟨0, by omega, rfl, by simp, Below.refl _ _⟩
    case round =>
      obtain ⟨k, hk, rfl, hp, hb⟩ := hrel
      have HP := Lib.hid hp; clear hp
      have HB1 := Lib.hid hb; clear hb
      by_cases hlt : k < m
      · have HQ1 := Lib.hid (HQ.out wr HB1.out (by omega))
        have hkl : k < l.length := by rw [HM.out]; exact hlt
        obtain ⟨b2, off2, rfl, hbb, c0⟩ := lie_nat HL.out hkl
        have hxn := HX.out l[k] (List.getElem_mem hkl)
        have HN1 := Lib.hid (fun e => find_cut (p := fun a => l.all fun y => Z a y) hkl HP.out e)
        have HN2 := Lib.hid (fun e => take_none (p := fun a => l.all fun y => Z a y) hkl HP.out e)
        generalize hx : l[k] = x at *
        clear hx
        have HC0 := Lib.hid c0; clear c0
        go_wp2_with (refine HQ1.out.mono ?_; rintro e w' ⟨rfl, rfl⟩)
        obtain ⟨w1, hw1⟩ : ∃ w1 : World, w1 = wr := ⟨_, rfl⟩
        have HW1 := Lib.hid (hw1 ▸ HB1.out : Below w.heap.size w w1)
        rw [← hw1]
        clear HQ1 hw1
        go_loopw [7, 8] (fun o i wr => ∃ j : Nat, j ≤ m ∧ i = .int .i64 j ∧ o = .bool ((l.take j).all fun y => Z x y) ∧ Below w.heap.size w wr) (fun _ i _ => m - (intOf i).toNat)
        case atStart => exact ⟨0, by omega, rfl, by simp, HW1.out⟩
        case round =>
          obtain ⟨j, hj, rfl, rfl, hb⟩ := hrel
          have HB2 := Lib.hid hb; clear hb
          by_cases hjm : j < m
          · have hjl : j < l.length := by rw [HM.out]; exact hjm
            obtain ⟨b3, off3, he3, _, c0⟩ := lie_nat HL.out hjl
            injection he3 with he3; injection he3 with he31 he32
            subst he31 he32
            have hyn := HX.out l[j] (List.getElem_mem hjl)
            have HS := Lib.hid (show (l.take (j + 1)).all (fun y => Z x y) = ((l.take j).all (fun y => Z x y) && (fun y => Z x y) l[j]) from by rw [List.take_succ_eq_append_getElem hjl, List.all_append]; simp)
            generalize hy : l[j] = y at *
            clear hy
            have c1 : wr.cell? ⟨b2, off2 + k, none⟩ = some (.int .i64 (x : Nat)) := by rw [HB2.out.cell (p := ⟨b2, off2 + k, none⟩) hbb]; exact HC0.out
            have c2 : wr.cell? ⟨b2, off2 + j, none⟩ = some (.int .i64 (y : Nat)) := by rw [HB2.out.cell (p := ⟨b2, off2 + j, none⟩) hbb]; exact c0
            clear c0
            have c3 := (HG.out.below HB2.out).top x hxn
            have c4 := (HG.out.below HB2.out).cel x y hxn hyn
            generalize hs : (l.take j).all (fun y => Z x y) = s at *
            clear hs
            have i1 : (0 : Int) ≤ (k : Int) ∧ (k : Int) < m := by omega
            have i2 : (0 : Int) ≤ (j : Int) ∧ (j : Int) < m := by omega
            have i3 : (0 : Int) ≤ (x : Int) ∧ (x : Int) < n := by omega
            have i4 : (0 : Int) ≤ (y : Int) ∧ (y : Int) < n := by omega
            cases s with
            | true =>
              go_wp2_with fail
              go_quiet (fail)
              go_wp2_with fail
              go_roundw
              case rel => exact ⟨j + 1, by omega, by go_num, by rw [HS.out]; simp, below_drewN HB2.out _⟩
              case measure => simp [intOf]; omega
            | false =>
              go_wp2_with fail
              go_quiet (fail)
              go_wp2_with fail
              go_roundw
              case rel => exact ⟨j + 1, by omega, by go_num, by rw [HS.out]; simp, below_drewN HB2.out _⟩
              case measure => simp [intOf]; omega
          · obtain rfl : j = m := by omega
            have hfull : l.take j = l := by rw [← HM.out, List.take_length]
            rw [hfull]
            clear hfull
            have c1 : wr.cell? ⟨b2, off2 + k, none⟩ = some (.int .i64 (x : Nat)) := by rw [HB2.out.cell (p := ⟨b2, off2 + k, none⟩) hbb]; exact HC0.out
            cases hz : l.all (fun y => Z x y) with
            | true =>
              obtain rfl : res = some x := by rw [← HR.out]; exact HN1.out hz
              clear hz
              go_wp2_with fail
              go_ret2
              exact ⟨rfl, HB2.out⟩
            | false =>
              have HK := Lib.hid (HN2.out hz)
              clear hz
              go_wp2_with fail
              go_roundw
              case rel => exact ⟨k + 1, by omega, by go_num, HK.out, HB2.out⟩
              case measure => simp [intOf]; omega
      · obtain rfl : k = m := by omega
        obtain rfl : res = none := by rw [← HR.out]; exact find_end HM.out.symm HP.out
        go_wp2_with fail
        go_ret2
        exact ⟨rfl, HB1.out⟩

set_option maxHeartbeats 2000000 in
theorem refGreatest_no {v lv : Value} {T : List (List Bool)} {l : List Int} (w : World) (h : TabV w w.heap.size v T) (hl : IntsV w w.heap.size lv l) (hm : l.length ≤ 1000) (hno : allIn T l = false) :
    Calls Try.prog 46 #[v, lv] w (Found w none) := by
  have hq := all_any w h hl hm
  obtain ⟨A, c, rfl, hl⟩ := hl
  clear h hl
  generalize hml : l.length = m at *
  by_cases hpos : 0 < m
  · rw [refAll_some (by omega), hno] at hq
    clear hno hml
    have HQ := Lib.hid hq; clear hq
    go_enter Try.func46, Try.ntmps46
    go_wp2_with fail
    go_loop [6] (fun i => i = .int .i64 0) (fun _ => 0)
    case atStart => rfl
    case round =>
      obtain rfl := hrel
      go_wp2_with (refine HQ.out.mono ?_; rintro e w' ⟨rfl, rfl⟩)
      go_ret2
      exact ⟨rfl, Below.refl _ _⟩
  · clear hq hno hml
    obtain rfl : m = 0 := by omega
    go_enter Try.func46, Try.ntmps46
    go_wp2_with fail
    go_loop [6] (fun i => i = .int .i64 0) (fun _ => 0)
    case atStart => rfl
    case round =>
      obtain rfl := hrel
      go_wp2_with fail
      go_ret2
      exact ⟨rfl, Below.refl _ _⟩

set_option maxHeartbeats 4000000 in
theorem refGreatest_any {v lv : Value} {T : List (List Bool)} {l : List Int} (w : World) (h : TabV w w.heap.size v T) (hl : IntsV w w.heap.size lv l) (hm : l.length ≤ 1000) :
    Calls Try.prog 46 #[v, lv] w (Found w (greatestT T l)) := by
  cases hin : allIn T l with
  | false => rw [greatestT_no hin]; exact refGreatest_no w h hl hm hin
  | true =>
    obtain ⟨ha, hs⟩ := allIn_iff.1 hin
    obtain ⟨l, rfl, hln⟩ := nats_of ha
    rw [nats_length] at hm
    rw [greatest_yes hin]
    have hq : ∀ wr, Below w.heap.size w wr → 0 < l.length → Calls Try.prog 59 #[v, lv] wr fun e w' => e = .returned (.bool true) ∧ wr = w' := fun wr hb hp => by
      have := all_any wr (h.below hb) (hl.below hb) (by rw [nats_length]; exact hm)
      rwa [refAll_some (by rw [nats_length]; exact hp), hin] at this
    obtain ⟨h1, h2, bk, off, c, G, O, C, rfl, hg⟩ := grid_of h hs
    clear h hs ha hin
    generalize T.length = n at *
    generalize atT T = Z at *
    obtain ⟨A, c1, rfl, hl⟩ := hl
    rw [nats_length] at hq ⊢
    generalize hres : firstZ (fun a b => Z b a) l = res
    have HG := Lib.hid hg; clear hg
    have HL := Lib.hid hl; clear hl
    have HX := Lib.hid hln; clear hln
    have HR := Lib.hid hres; clear hres
    have HQ := Lib.hid hq; clear hq
    generalize hml : l.length = m at *
    have HM := Lib.hid hml; clear hml
    go_enter Try.func46, Try.ntmps46
    go_wp2_with fail
    go_loopw [6] (fun i wr => ∃ k : Nat, k ≤ m ∧ i = .int .i64 k ∧ (∀ a ∈ l.take k, (l.all fun y => Z y a) = false) ∧ Below w.heap.size w wr) (fun i _ => m - (intOf i).toNat)
    case atStart => exact ⟨0, by omega, rfl, by simp, Below.refl _ _⟩
    case round =>
      obtain ⟨k, hk, rfl, hp, hb⟩ := hrel
      have HP := Lib.hid hp; clear hp
      have HB1 := Lib.hid hb; clear hb
      by_cases hlt : k < m
      · have HQ1 := Lib.hid (HQ.out wr HB1.out (by omega))
        have hkl : k < l.length := by rw [HM.out]; exact hlt
        obtain ⟨b2, off2, rfl, hbb, c0⟩ := lie_nat HL.out hkl
        have hxn := HX.out l[k] (List.getElem_mem hkl)
        have HN1 := Lib.hid (fun e => find_cut (p := fun a => l.all fun y => Z y a) hkl HP.out e)
        have HN2 := Lib.hid (fun e => take_none (p := fun a => l.all fun y => Z y a) hkl HP.out e)
        generalize hx : l[k] = x at *
        clear hx
        have HC0 := Lib.hid c0; clear c0
        go_wp2_with (refine HQ1.out.mono ?_; rintro e w' ⟨rfl, rfl⟩)
        obtain ⟨w1, hw1⟩ : ∃ w1 : World, w1 = wr := ⟨_, rfl⟩
        have HW1 := Lib.hid (hw1 ▸ HB1.out : Below w.heap.size w w1)
        rw [← hw1]
        clear HQ1 hw1
        go_loopw [7, 8] (fun o i wr => ∃ j : Nat, j ≤ m ∧ i = .int .i64 j ∧ o = .bool ((l.take j).all fun y => Z y x) ∧ Below w.heap.size w wr) (fun _ i _ => m - (intOf i).toNat)
        case atStart => exact ⟨0, by omega, rfl, by simp, HW1.out⟩
        case round =>
          obtain ⟨j, hj, rfl, rfl, hb⟩ := hrel
          have HB2 := Lib.hid hb; clear hb
          by_cases hjm : j < m
          · have hjl : j < l.length := by rw [HM.out]; exact hjm
            obtain ⟨b3, off3, he3, _, c0⟩ := lie_nat HL.out hjl
            injection he3 with he3; injection he3 with he31 he32
            subst he31 he32
            have hyn := HX.out l[j] (List.getElem_mem hjl)
            have HS := Lib.hid (show (l.take (j + 1)).all (fun y => Z y x) = ((l.take j).all (fun y => Z y x) && (fun y => Z y x) l[j]) from by rw [List.take_succ_eq_append_getElem hjl, List.all_append]; simp)
            generalize hy : l[j] = y at *
            clear hy
            have c1 : wr.cell? ⟨b2, off2 + k, none⟩ = some (.int .i64 (x : Nat)) := by rw [HB2.out.cell (p := ⟨b2, off2 + k, none⟩) hbb]; exact HC0.out
            have c2 : wr.cell? ⟨b2, off2 + j, none⟩ = some (.int .i64 (y : Nat)) := by rw [HB2.out.cell (p := ⟨b2, off2 + j, none⟩) hbb]; exact c0
            clear c0
            have c3 := (HG.out.below HB2.out).top y hyn
            have c4 := (HG.out.below HB2.out).cel y x hyn hxn
            generalize hs : (l.take j).all (fun y => Z y x) = s at *
            clear hs
            have i1 : (0 : Int) ≤ (k : Int) ∧ (k : Int) < m := by omega
            have i2 : (0 : Int) ≤ (j : Int) ∧ (j : Int) < m := by omega
            have i3 : (0 : Int) ≤ (x : Int) ∧ (x : Int) < n := by omega
            have i4 : (0 : Int) ≤ (y : Int) ∧ (y : Int) < n := by omega
            cases s with
            | true =>
              go_wp2_with fail
              go_quiet (fail)
              go_wp2_with fail
              go_roundw
              case rel => exact ⟨j + 1, by omega, by go_num, by rw [HS.out]; simp, below_drewN HB2.out _⟩
              case measure => simp [intOf]; omega
            | false =>
              go_wp2_with fail
              go_quiet (fail)
              go_wp2_with fail
              go_roundw
              case rel => exact ⟨j + 1, by omega, by go_num, by rw [HS.out]; simp, below_drewN HB2.out _⟩
              case measure => simp [intOf]; omega
          · obtain rfl : j = m := by omega
            have hfull : l.take j = l := by rw [← HM.out, List.take_length]
            rw [hfull]
            clear hfull
            have c1 : wr.cell? ⟨b2, off2 + k, none⟩ = some (.int .i64 (x : Nat)) := by rw [HB2.out.cell (p := ⟨b2, off2 + k, none⟩) hbb]; exact HC0.out
            cases hz : l.all (fun y => Z y x) with
            | true =>
              obtain rfl : res = some x := by rw [← HR.out]; exact HN1.out hz
              clear hz
              go_wp2_with fail
              go_ret2
              exact ⟨rfl, HB2.out⟩
            | false =>
              have HK := Lib.hid (HN2.out hz)
              clear hz
              go_wp2_with fail
              go_roundw
              case rel => exact ⟨k + 1, by omega, by go_num, HK.out, HB2.out⟩
              case measure => simp [intOf]; omega
      · obtain rfl : k = m := by omega
        obtain rfl : res = none := by rw [← HR.out]; exact find_end HM.out.symm HP.out
        go_wp2_with fail
        go_ret2
        exact ⟨rfl, HB1.out⟩

end Go.Proofs.Ytidjohhnggpibaa
