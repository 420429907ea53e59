/- What flows to all of a list, and to what all of a list flow. -/
import Derived.Test.YtidjohhnggpibaaDist
namespace Go.Proofs.Ytidjohhnggpibaa
open Go.RowKit

theorem all_next_l {Z : Nat → Bool} {l : List Nat} {k : Nat} (hk : k < l.length) (h : (l.take k).all Z = true) (e : Z l[k] = true) : (l.take (k + 1)).all Z = true := take_all hk h e

set_option maxHeartbeats 1000000 in
theorem flows_any {B B2 b off n c a : Nat} {G O C : Nat → Nat} {Z : Nat → Nat → Bool} {lv : Value} {l : List Nat} (w : World) (hg : Grid w B b off n G O C Z) (ha : a < n) (hl : IntsV w B2 lv (nats l)) (hx : ∀ x ∈ l, x < n) (hm : l.length ≤ 1000) :
    Calls Try.prog 62 #[.slice (some ⟨b, off, none⟩) n c, .int .i64 a, lv] w fun e w' => e = .returned (.bool (l.all fun x => Z a x)) ∧ w = w' := by
  obtain ⟨A, c2, rfl, hl⟩ := hl
  rw [nats_length]
  have HG := Lib.hid hg; clear hg
  have HL := Lib.hid hl; clear hl
  have HX := Lib.hid hx; clear hx
  generalize hres : (l.all fun x => Z a x) = res
  have HR := Lib.hid hres; clear hres
  generalize hml : l.length = m at *
  have HM := Lib.hid hml; clear hml
  go_enter Try.func62, Try.ntmps62
  go_wp2_with fail
  go_loop [11] (fun i => ∃ k : Nat, k ≤ m ∧ i = .int .i64 k ∧ (l.take k).all (fun x => Z a x) = true) (fun i => m - (intOf i).toNat)
  case atStart => exact ⟨0, by omega, rfl, by simp⟩
  case round =>
    obtain ⟨k, hk, rfl, hp⟩ := hrel
    have HP := Lib.hid hp; clear hp
    by_cases hlt : k < m
    · have hkl : k < l.length := by rw [HM.out]; exact hlt
      obtain ⟨b2, off2, rfl, hb, c1⟩ := lie_nat HL.out hkl
      have hxn := HX.out l[k] (List.getElem_mem hkl)
      have HN1 := Lib.hid (fun e => take_all (p := fun x => Z a x) hkl HP.out e)
      have HN2 := Lib.hid (fun e => all_no (p := fun x => Z a x) hkl e)
      generalize hx : l[k] = x at *
      clear hx
      have c2 := HG.out.top a ha
      have c3 := HG.out.cel a x ha hxn
      cases hz : Z a x with
      | true =>
        have HK := Lib.hid (HN1.out hz)
        rw [hz] at c3
        clear hz
        go_wp2_with fail
        go_round
        case rel => exact ⟨k + 1, by omega, by go_num, HK.out⟩
        case measure => simp [intOf]; omega
      | false =>
        obtain rfl : res = false := by rw [← HR.out]; exact HN2.out hz
        rw [hz] at c3
        clear hz
        go_wp2_with fail
        go_ret
        exact ⟨rfl, rfl⟩
    · obtain rfl : k = m := by omega
      obtain rfl : res = true := by rw [← HR.out]; exact all_end HM.out.symm HP.out
      go_wp2_with fail
      go_ret
      exact ⟨rfl, rfl⟩

set_option maxHeartbeats 1000000 in
theorem flowed_any {B B2 b off n c a : Nat} {G O C : Nat → Nat} {Z : Nat → Nat → Bool} {lv : Value} {l : List Nat} (w : World) (hg : Grid w B b off n G O C Z) (ha : a < n) (hl : IntsV w B2 lv (nats l)) (hx : ∀ x ∈ l, x < n) (hm : l.length ≤ 1000) :
    Calls Try.prog 63 #[.slice (some ⟨b, off, none⟩) n c, .int .i64 a, lv] w fun e w' => e = .returned (.bool (l.all fun x => Z x a)) ∧ w = w' := by
  obtain ⟨A, c2, rfl, hl⟩ := hl
  rw [nats_length]
  have HG := Lib.hid hg; clear hg
  have HL := Lib.hid hl; clear hl
  have HX := Lib.hid hx; clear hx
  generalize hres : (l.all fun x => Z x a) = res
  have HR := Lib.hid hres; clear hres
  generalize hml : l.length = m at *
  have HM := Lib.hid hml; clear hml
  go_enter Try.func63, Try.ntmps63
  go_wp2_with fail
  go_loop [11] (fun i => ∃ k : Nat, k ≤ m ∧ i = .int .i64 k ∧ (l.take k).all (fun x => Z x a) = true) (fun i => m - (intOf i).toNat)
  case atStart => exact ⟨0, by omega, rfl, by simp⟩
  case round =>
    obtain ⟨k, hk, rfl, hp⟩ := hrel
    have HP := Lib.hid hp; clear hp
    by_cases hlt : k < m
    · have hkl : k < l.length := by rw [HM.out]; exact hlt
      obtain ⟨b2, off2, rfl, hb, c1⟩ := lie_nat HL.out hkl
      have hxn := HX.out l[k] (List.getElem_mem hkl)
      have HN1 := Lib.hid (fun e => take_all (p := fun x => Z x a) hkl HP.out e)
      have HN2 := Lib.hid (fun e => all_no (p := fun x => Z x a) hkl e)
      generalize hx : l[k] = x at *
      clear hx
      have c2 := HG.out.top x hxn
      have c3 := HG.out.cel x a hxn ha
      cases hz : Z x a with
      | true =>
        have HK := Lib.hid (HN1.out hz)
        rw [hz] at c3
        clear hz
        go_wp2_with fail
        go_round
        case rel => exact ⟨k + 1, by omega, by go_num, HK.out⟩
        case measure => simp [intOf]; omega
      | false =>
        obtain rfl : res = false := by rw [← HR.out]; exact HN2.out hz
        rw [hz] at c3
        clear hz
        go_wp2_with fail
        go_ret
        exact ⟨rfl, rfl⟩
    · obtain rfl : k = m := by omega
      obtain rfl : res = true := by rw [← HR.out]; exact all_end HM.out.symm HP.out
      go_wp2_with fail
      go_ret
      exact ⟨rfl, rfl⟩

end Go.Proofs.Ytidjohhnggpibaa
