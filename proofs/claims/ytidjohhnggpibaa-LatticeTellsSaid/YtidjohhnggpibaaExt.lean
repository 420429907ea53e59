/- Least and Greatest, by the program and by the reference. -/
import Derived.Test.YtidjohhnggpibaaBnds
import Derived.Deep.QuietTactic
import Derived.BigQuiet
namespace Go.Proofs.Ytidjohhnggpibaa
open Go.RowKit

/-- What Least answers: the label, or 0; whether there is one. -/
def ansZ (o : Option Nat) : Value := .tuple #[.int .i64 ((o.getD 0 : Nat) : Int), .bool o.isSome]
def leastT (T : List (List Bool)) (l : List Int) : Option Nat := if allIn T l then firstZ (atT T) (l.map Int.toNat) else none
def greatestT (T : List (List Bool)) (l : List Int) : Option Nat := if allIn T l then firstZ (fun a b => atT T b a) (l.map Int.toNat) else none
theorem nats_toNat (l : List Nat) : (nats l).map Int.toNat = l := by
  unfold nats
  rw [List.map_map]
  exact (List.map_congr_left (fun a _ => Int.toNat_natCast a)).trans (List.map_id l)
theorem leastT_no {T : List (List Bool)} {l : List Int} (h : allIn T l = false) : leastT T l = none := by simp [leastT, h]
theorem greatestT_no {T : List (List Bool)} {l : List Int} (h : allIn T l = false) : greatestT T l = none := by simp [greatestT, h]
theorem least_yes {T : List (List Bool)} {l : List Nat} (h : allIn T (nats l) = true) : leastT T (nats l) = firstZ (atT T) l := by simp [leastT, h, nats_toNat]
theorem greatest_yes {T : List (List Bool)} {l : List Nat} (h : allIn T (nats l) = true) : greatestT T (nats l) = firstZ (fun a b => atT T b a) l := by simp [greatestT, h, nats_toNat]
theorem find_cut {α : Type} {p : α → Bool} {l : List α} {k : Nat} (hk : k < l.length) (h : ∀ x ∈ l.take k, p x = false) (e : p l[k] = true) : l.find? p = some l[k] := by
  have h1 : l.find? p = (l.take k ++ l.drop k).find? p := by rw [List.take_append_drop]
  have h2 : (l.drop k).find? p = some l[k] := by rw [List.drop_eq_getElem_cons hk]; exact List.find?_cons_of_pos e
  rw [h1, List.find?_append, List.find?_eq_none.2 (fun x hx => by simp [h x hx]), h2]
  rfl
theorem find_end {α : Type} {p : α → Bool} {l : List α} {k : Nat} (hk : k = l.length) (h : ∀ x ∈ l.take k, p x = false) : l.find? p = none := by
  subst hk
  rw [List.take_length] at h
  exact List.find?_eq_none.2 (fun x hx => by simp [h x hx])
theorem take_none {α : Type} {p : α → Bool} {l : List α} {k : Nat} (hk : k < l.length) (h : ∀ x ∈ l.take k, p x = false) (e : p l[k] = false) : ∀ x ∈ l.take (k + 1), p x = false := by
  intro x hx
  rw [List.take_succ_eq_append_getElem hk] at hx
  rcases List.mem_append.1 hx with hx | hx
  · exact h x hx
  · simp at hx; subst hx; exact e

/-- What a function that finds a label answers. -/
def Found (w : World) (o : Option Nat) (e : Ending) (w' : World) : Prop := e = .returned (ansZ o) ∧ Below w.heap.size w w'

set_option maxHeartbeats 2000000 in
theorem least_no {v lv : Value} {T : List (List Bool)} {l : List Int} (w : World) (h : TabV w w.heap.size v T) (hl : IntsV w w.heap.size lv l) (hm : l.length ≤ 1000) (hno : allIn T l = false) :
    Calls Try.prog 54 #[v, lv] w (Found w none) := by
  have hq := hasAll_any w h hl hm
  rw [hno] at hq
  clear h hno hl
  go_enter Try.func54, Try.ntmps54
  go_wp2_with fail
  refine hq.mono ?_
  rintro e w' ⟨rfl, rfl⟩
  clear hq
  go_wp2_with fail
  go_ret2
  exact ⟨rfl, Below.refl _ _⟩

set_option maxHeartbeats 2000000 in
theorem least_any {v lv : Value} {T : List (List Bool)} {l : List Int} (w : World) (h : TabV w w.heap.size v T) (hl : IntsV w w.heap.size lv l) (hm : l.length ≤ 1000) :
    Calls Try.prog 54 #[v, lv] w (Found w (leastT T l)) := by
  cases hin : allIn T l with
  | false => rw [leastT_no hin]; exact least_no w h hl hm hin
  | true =>
    obtain ⟨ha, hs⟩ := allIn_iff.1 hin
    obtain ⟨l, rfl, hln⟩ := nats_of ha
    rw [nats_length] at hm
    rw [least_yes hin]
    have hq := hasAll_any w h hl (by rw [nats_length]; exact hm)
    rw [hin] at hq
    obtain ⟨h1, h2, bk, off, c, G, O, C, rfl, hg⟩ := grid_of h hs
    clear h hs ha hin
    generalize T.length = n at *
    generalize atT T = Z at *
    have hd := dist_any w hl (fun x hx => by have := hln x hx; omega) hm
    have hdl := dedup_length l
    have hdn : ∀ x ∈ dedup l, x < n := fun x hx => hln x ((mem_dedup l x).1 hx)
    have hfz := first_dedup Z l
    rw [← hfz]
    generalize dedup l = d at *
    generalize hres : firstZ Z d = res
    clear hfz hl hln
    have HG := Lib.hid hg; clear hg
    have HD := Lib.hid hdn; clear hdn
    have HR := Lib.hid hres; clear hres
    go_enter Try.func54, Try.ntmps54
    go_wp2_with fail
    refine hq.mono ?_
    rintro e w' ⟨rfl, rfl⟩
    clear hq
    go_wp2_with fail
    refine hd.mono ?_
    rintro e w1 ⟨v1, rfl, hv1, hb1⟩
    clear hd
    obtain ⟨A1, c1, rfl, hl1⟩ := hv1
    rw [nats_length]
    have HL := Lib.hid hl1; clear hl1
    have HB1 := Lib.hid hb1; clear hb1
    generalize hml : d.length = m at *
    have HM := Lib.hid hml; clear hml
    have hm2 : m ≤ 1000 := by omega
    go_wp2_with fail
    go_loop [16] (fun i => ∃ k : Nat, k ≤ m ∧ i = .int .i64 k ∧ ∀ a ∈ d.take k, (d.all fun x => Z a x) = false) (fun i => m - (intOf i).toNat)
    case atStart => exact ⟨0, by omega, rfl, by simp⟩
    case round =>
      obtain ⟨k, hk, rfl, hp⟩ := hrel
      have HP := Lib.hid hp; clear hp
      by_cases hlt : k < m
      · have hkl : k < d.length := by rw [HM.out]; exact hlt
        obtain ⟨b2, off2, rfl, hb, c2⟩ := lie_nat HL.out hkl
        have hxn := HD.out d[k] (List.getElem_mem hkl)
        have HN1 := Lib.hid (fun e => find_cut (p := fun a => d.all fun x => Z a x) hkl HP.out e)
        have HN2 := Lib.hid (fun e => take_none (p := fun a => d.all fun x => Z a x) hkl HP.out e)
        generalize hx : d[k] = x at *
        clear hx
        have hf := flows_any (lv := .slice (some ⟨b2, off2, none⟩) m c1) (l := d) (c := c) w1 (HG.out.below HB1.out) hxn ⟨_, c1, by rw [nats_length, HM.out], HL.out⟩ HD.out (by rw [HM.out]; exact hm2)
        cases hz : (d.all fun y => Z x y) with
        | true =>
          rw [hz] at hf
          have HF := Lib.hid hf; clear hf
          obtain rfl : res = some x := by rw [← HR.out]; exact HN1.out hz
          clear hz
          go_wp2_with (refine HF.out.mono ?_; rintro e w' ⟨rfl, rfl⟩)
          go_ret2
          exact ⟨rfl, HB1.out⟩
        | false =>
          rw [hz] at hf
          have HF := Lib.hid hf; clear hf
          have HK := Lib.hid (HN2.out hz)
          clear hz
          go_wp2_with (refine HF.out.mono ?_; rintro e w' ⟨rfl, rfl⟩)
          go_round
          case rel => exact ⟨k + 1, by omega, by go_num, HK.out⟩
          case measure => simp [intOf]; omega
      · obtain rfl : k = m := by omega
        obtain rfl : res = none := by rw [← HR.out]; exact find_end HM.out.symm HP.out
        go_wp2_with fail
        go_ret2
        exact ⟨rfl, HB1.out⟩

set_option maxHeartbeats 2000000 in
theorem greatest_no {v lv : Value} {T : List (List Bool)} {l : List Int} (w : World) (h : TabV w w.heap.size v T) (hl : IntsV w w.heap.size lv l) (hm : l.length ≤ 1000) (hno : allIn T l = false) :
    Calls Try.prog 56 #[v, lv] w (Found w none) := by
  have hq := hasAll_any w h hl hm
  rw [hno] at hq
  clear h hno hl
  go_enter Try.func56, Try.ntmps56
  go_wp2_with fail
  refine hq.mono ?_
  rintro e w' ⟨rfl, rfl⟩
  clear hq
  go_wp2_with fail
  go_ret2
  exact ⟨rfl, Below.refl _ _⟩

set_option maxHeartbeats 2000000 in
theorem greatest_any {v lv : Value} {T : List (List Bool)} {l : List Int} (w : World) (h : TabV w w.heap.size v T) (hl : IntsV w w.heap.size lv l) (hm : l.length ≤ 1000) :
    Calls Try.prog 56 #[v, lv] w (Found w (greatestT T l)) := by
  cases hin : allIn T l with
  | false => rw [greatestT_no hin]; exact greatest_no w h hl hm hin
  | true =>
    obtain ⟨ha, hs⟩ := allIn_iff.1 hin
    obtain ⟨l, rfl, hln⟩ := nats_of ha
    rw [nats_length] at hm
    rw [greatest_yes hin]
    have hq := hasAll_any w h hl (by rw [nats_length]; exact hm)
    rw [hin] at hq
    obtain ⟨h1, h2, bk, off, c, G, O, C, rfl, hg⟩ := grid_of h hs
    clear h hs ha hin
    generalize T.length = n at *
    generalize atT T = Z at *
    have hd := dist_any w hl (fun x hx => by have := hln x hx; omega) hm
    have hdl := dedup_length l
    have hdn : ∀ x ∈ dedup l, x < n := fun x hx => hln x ((mem_dedup l x).1 hx)
    have hfz := first_dedup (fun a b => Z b a) l
    rw [← hfz]
    generalize dedup l = d at *
    generalize hres : firstZ (fun a b => Z b a) d = res
    clear hfz hl hln
    have HG := Lib.hid hg; clear hg
    have HD := Lib.hid hdn; clear hdn
    have HR := Lib.hid hres; clear hres
    go_enter Try.func56, Try.ntmps56
    go_wp2_with fail
    refine hq.mono ?_
    rintro e w' ⟨rfl, rfl⟩
    clear hq
    go_wp2_with fail
    refine hd.mono ?_
    rintro e w1 ⟨v1, rfl, hv1, hb1⟩
    clear hd
    obtain ⟨A1, c1, rfl, hl1⟩ := hv1
    rw [nats_length]
    have HL := Lib.hid hl1; clear hl1
    have HB1 := Lib.hid hb1; clear hb1
    generalize hml : d.length = m at *
    have HM := Lib.hid hml; clear hml
    have hm2 : m ≤ 1000 := by omega
    go_wp2_with fail
    go_loop [16] (fun i => ∃ k : Nat, k ≤ m ∧ i = .int .i64 k ∧ ∀ a ∈ d.take k, (d.all fun x => Z x a) = false) (fun i => m - (intOf i).toNat)
    case atStart => exact ⟨0, by omega, rfl, by simp⟩
    case round =>
      obtain ⟨k, hk, rfl, hp⟩ := hrel
      have HP := Lib.hid hp; clear hp
      by_cases hlt : k < m
      · have hkl : k < d.length := by rw [HM.out]; exact hlt
        obtain ⟨b2, off2, rfl, hb, c2⟩ := lie_nat HL.out hkl
        have hxn := HD.out d[k] (List.getElem_mem hkl)
        have HN1 := Lib.hid (fun e => find_cut (p := fun a => d.all fun x => Z x a) hkl HP.out e)
        have HN2 := Lib.hid (fun e => take_none (p := fun a => d.all fun x => Z x a) hkl HP.out e)
        generalize hx : d[k] = x at *
        clear hx
        have hf := flowed_any (lv := .slice (some ⟨b2, off2, none⟩) m c1) (l := d) (c := c) w1 (HG.out.below HB1.out) hxn ⟨_, c1, by rw [nats_length, HM.out], HL.out⟩ HD.out (by rw [HM.out]; exact hm2)
        cases hz : (d.all fun y => Z y x) with
        | true =>
          rw [hz] at hf
          have HF := Lib.hid hf; clear hf
          obtain rfl : res = some x := by rw [← HR.out]; exact HN1.out hz
          clear hz
          go_wp2_with (refine HF.out.mono ?_; rintro e w' ⟨rfl, rfl⟩)
          go_ret2
          exact ⟨rfl, HB1.out⟩
        | false =>
          rw [hz] at hf
          have HF := Lib.hid hf; clear hf
          have HK := Lib.hid (HN2.out hz)
          clear hz
          go_wp2_with (refine HF.out.mono ?_; rintro e w' ⟨rfl, rfl⟩)
          go_round
          case rel => exact ⟨k + 1, by omega, by go_num, HK.out⟩
          case measure => simp [intOf]; omega
      · obtain rfl : k = m := by omega
        obtain rfl : res = none := by rw [← HR.out]; exact find_end HM.out.symm HP.out
        go_wp2_with fail
        go_ret2
        exact ⟨rfl, HB1.out⟩

end Go.Proofs.Ytidjohhnggpibaa
