/- Powers and Chain, by the program and by the reference, for every number. -/
import Derived.Test.YtidjohhnggpibaaTabOf
import Derived.Test.YtidjohhnggpibaaChn
namespace Go.Proofs.Ytidjohhnggpibaa
open Go.RowKit

/-- The tables of the document. -/
def powT (i : Int) : List (List Bool) := if 0 ≤ i ∧ i ≤ 4 then tabOf (2 ^ i.toNat) poZ else []
def chT (i : Int) : List (List Bool) := if 1 ≤ i ∧ i ≤ 16 then tabOf i.toNat chZ else []
/-- A call that makes a table. -/
def TabMade (w : World) (T : List (List Bool)) (e : Ending) (w' : World) : Prop := ∃ v, e = .returned v ∧ TabV w' w'.heap.size v T ∧ Below w.heap.size w w'
theorem tab_nil (w : World) (B : Nat) : TabV w B (.slice none 0 0) [] := ⟨none, 0, [], rfl, rfl, Lies.nil, fun _ h => by cases h⟩
theorem FG.made {w w' : World} {v : Value} {n : Nat} {G C : Nat → Nat} {Z : Nat → Nat → Bool} {e : Ending} (he : e = .returned v) (h : FG w' w.heap.size v n n G C Z) (hb : Below w.heap.size w w') : TabMade w (tabOf n Z) e w' := ⟨v, he, h.tab, hb⟩
theorem pow_small {n : Nat} (h : n ≤ 4) : 1 ≤ 2 ^ n ∧ 2 ^ n ≤ 16 := by
  have h' : n = 0 ∨ n = 1 ∨ n = 2 ∨ n = 3 ∨ n = 4 := by omega
  rcases h' with rfl | rfl | rfl | rfl | rfl <;> decide
theorem pow_wrap {n : Nat} (h : n ≤ 4) : wrap64 ((2 : Int) ^ n) = ((2 ^ n : Nat) : Int) := by
  have h' : n = 0 ∨ n = 1 ∨ n = 2 ∨ n = 3 ∨ n = 4 := by omega
  rcases h' with rfl | rfl | rfl | rfl | rfl <;> decide +kernel

theorem po_prog : ∀ a, a < 16 → ∀ b, b < 16 → (bits .andNot .i64 (a : Nat) (b : Nat) == 0) = poZ a b := by decide +kernel

theorem clo_chain (w : World) (a b : Nat) : Calls Try.prog 53 #[.int .i64 a, .int .i64 b] w fun e w' => e = .returned (.bool (chZ a b)) ∧ w' = w := by
  obtain ⟨z, hz⟩ : ∃ z, chZ a b = z := ⟨_, rfl⟩
  have e1 : decide ((a : Int) ≤ (b : Int)) = z := hz
  have e2 : decide (a ≤ b) = z := by rw [← hz]; simp [chZ]
  rw [hz]
  clear hz
  go_enter Try.func53, Try.ntmps53
  go_wp2_with fail
  go_ret
  exact ⟨rfl, rfl⟩

theorem clo_pow (w : World) (a b : Nat) (ha : a < 16) (hb : b < 16) : Calls Try.prog 52 #[.int .i64 a, .int .i64 b] w fun e w' => e = .returned (.bool (poZ a b)) ∧ w' = w := by
  have e1 := po_prog a ha b hb
  generalize poZ a b = z at *
  go_enter Try.func52, Try.ntmps52
  go_wp2_with fail
  go_ret
  exact ⟨rfl, rfl⟩

set_option maxHeartbeats 1000000 in
theorem powers_in (n N : Nat) (h : n ≤ 4) (h1 : 1 ≤ N) (h2 : N ≤ 16) (hsh : wrap64 ((2 : Int) ^ n) = (N : Int)) (w : World) : Calls Try.prog 28 #[.int .i64 n] w (TabMade w (tabOf N poZ)) := by
  go_enter Try.func28, Try.ntmps28
  go_wp2_with fail
  simp only [hsh]
  refine (tabOf_pow N h1 h2 poZ w fun w' a b ha hb _ => clo_pow w' a b (by omega) (by omega)).mono ?_
  rintro e w1 ⟨v, G, C, rfl, hg, hb⟩
  have HG := Lib.hid hg; clear hg
  have HB := Lib.hid hb; clear hb
  go_wp2_with fail
  go_ret
  exact HG.out.made rfl HB.out

set_option maxHeartbeats 1000000 in
theorem chains_in (n : Nat) (h1 : 1 ≤ n) (h2 : n ≤ 16) (w : World) : Calls Try.prog 30 #[.int .i64 n] w (TabMade w (tabOf n chZ)) := by
  go_enter Try.func30, Try.ntmps30
  go_wp2_with fail
  refine (tabOf_chain n h1 h2 chZ w fun w' a b _ _ _ => clo_chain w' a b).mono ?_
  rintro e w1 ⟨v, G, C, rfl, hg, hb⟩
  have HG := Lib.hid hg; clear hg
  have HB := Lib.hid hb; clear hb
  go_wp2_with fail
  go_ret
  exact HG.out.made rfl HB.out

set_option maxHeartbeats 4000000 in
theorem refPow_0 (w : World) :
    Calls Try.prog 29 #[.int .i64 0] w fun e w' => ∃ v G C, e = .returned v ∧ FG w' w.heap.size v 1 1 G C poZ ∧ Below w.heap.size w w' := by
  go_enter Try.func29, Try.ntmps29
  go_wp2_with fail
  go_loopw [3, 4] (fun v i wr => ∃ (k : Nat) (G C : Nat → Nat), k ≤ 1 ∧ i = .int .i64 k ∧ FG wr w.heap.size v 1 k G C poZ ∧ Below w.heap.size w wr) (fun _ i _ => 1 - (intOf i).toNat)
  case atStart => exact ⟨0, fun _ => 0, fun _ => 0, by omega, rfl, FG.none_ _ _ _ _ _ _, Below.refl _ _⟩
  case round =>
    obtain ⟨k, G, C, hk, rfl, hg, hb⟩ := hrel
    have HG := Lib.hid hg; clear hg
    have hsz := hb.size
    have HB := Lib.hid hb; clear hb
    by_cases hlt : k < 1
    · have d4 : decide ((k : Int) < 1) = true := by simp; omega
      go_wp2_with fail
      obtain ⟨w1, hw1⟩ : ∃ w1 : World, w1 = wr := ⟨_, rfl⟩
      have HG1 := Lib.hid (hw1 ▸ HG.out)
      have HB1 := Lib.hid (hw1 ▸ HB.out : Below w.heap.size w w1)
      have hs1 : w.heap.size ≤ w1.heap.size := by rw [hw1]; exact hsz
      rw [← hw1]
      clear HG HB hsz hw1
      go_loopw [5, 6] (fun v i wr => ∃ j : Nat, j ≤ 1 ∧ i = .int .i64 j ∧ wr.ownsRow w1.heap.size 4 1 v j (bls (rowOf j (poZ k))) ∧ Below w1.heap.size w1 wr) (fun _ i _ => 1 - (intOf i).toNat)
      case atStart => exact ⟨0, by omega, rfl, World.ownsRow_nil _ _ _ _, Below.refl _ _⟩
      case round =>
        obtain ⟨j, hj, rfl, ho, hb⟩ := hrel
        have hsz := hb.size
        have HO := Lib.hid ho; clear ho
        have HB2 := Lib.hid hb; clear hb
        by_cases hjn : j < 1
        · have HR := Lib.hid (rowOf_succ j (poZ k))
          obtain ⟨z, hz⟩ : ∃ z, poZ k j = z := ⟨_, rfl⟩
          have e1 : (bits .and .i64 (k : Int) (j : Int) == (k : Int)) = z := hz
          have HZ := Lib.hid hz; clear hz
          have HO2 := Lib.hid (HO.out.alloc (.cells #[.bool z] 4))
          go_wp2_with (at_builtin; go_must (refine wpList_append_L 26 4 _ 1 Try.underlying26 inf_bool rfl rfl _ _ rfl w1.heap.size _ _ _ rfl HO2.out (wr.heap.size + 1) _ 1 1 [.bool z] rfl rfl (lies_new wr [.bool z] 4) ?c2 ?c3 ?c4 ?c5 ?_))
          case c2 => intro u hu; simp at hu; subst hu; rfl
          case c3 => omega
          case c4 => omega
          case c5 => simp; omega
          intro v3 w3 ho3 _ hb3
          have HO3 := Lib.hid ho3; clear ho3
          have HB3 := Lib.hid ((HB2.out.trans ((below_alloc wr (.cells #[.bool z] 4)).mono hsz)).trans hb3); clear hb3
          clear e1
          go_wp2_with fail
          go_roundw
          case rel => exact ⟨j + 1, by omega, by go_num, by rw [HR.out, HZ.out]; simpa [bls] using HO3.out, HB3.out⟩
          case measure => simp [intOf]; omega
        · obtain rfl : j = 1 := by omega
          have hr2 := HG1.out.below HB2.out
          obtain ⟨gk, ck, rfl, hr3⟩ := hr2.rows.snoc hs1 (fun j hj => HG1.out.rows.lt hj) (by omega) HO.out
          have HR3 := Lib.hid hr3; clear hr3
          have HF2 := Lib.hid hr2; clear hr2
          have HO2 := Lib.hid (HF2.out.own.alloc (.cells #[.slice (some ⟨gk, 0, none⟩) 1 ck] 26))
          go_wp2_with (at_builtin; go_must (refine wpList_append_L 22 26 _ 24 Try.underlying22 inf_row rfl rfl _ _ rfl w.heap.size _ _ _ rfl HO2.out (wr.heap.size + 1) _ 1 1 [.slice (some ⟨gk, 0, none⟩) 1 ck] rfl rfl (lies_new wr [.slice (some ⟨gk, 0, none⟩) 1 ck] 26) ?c2 ?c3 ?c4 ?c5 ?_))
          case c2 => intro u hu; simp at hu; subst hu; rfl
          case c3 => omega
          case c4 => omega
          case c5 => simp; omega
          intro v3 w3 ho3 hg3 hb3
          have HB3 := Lib.hid (((HB1.out.trans (HB2.out.mono hs1)).trans ((below_alloc wr (.cells #[.slice (some ⟨gk, 0, none⟩) 1 ck] 26)).mono (by omega))).trans hb3); clear hb3
          have hrow := (HR3.out.below (below_alloc wr (.cells #[.slice (some ⟨gk, 0, none⟩) 1 ck] 26))).grown HO2.out hg3
          have HFN : Hid (FG w3 w.heap.size v3 1 (k + 1) (fun i => if i = k then gk else G i) (fun i => if i = k then ck else C i) poZ) := Lib.hid ⟨by
            rw [hdrs_succ, hdrs_congr (G' := G) (C' := C) (fun i hi => by simp [show ¬ i = k by omega])]
            simpa using ho3, hrow⟩
          clear ho3 hg3 hrow
          go_wp2_with fail
          go_roundw
          case rel => exact ⟨k + 1, _, _, by omega, by go_num, HFN.out, HB3.out⟩
          case measure => simp [intOf]; omega
    · obtain rfl : k = 1 := by omega
      go_wp2_with fail
      go_ret
      exact ⟨_, G, C, rfl, HG.out, HB.out⟩

set_option maxHeartbeats 4000000 in
theorem refPow_1 (w : World) :
    Calls Try.prog 29 #[.int .i64 1] w fun e w' => ∃ v G C, e = .returned v ∧ FG w' w.heap.size v 2 2 G C poZ ∧ Below w.heap.size w w' := by
  go_enter Try.func29, Try.ntmps29
  go_wp2_with fail
  go_loopw [3, 4] (fun v i wr => ∃ (k : Nat) (G C : Nat → Nat), k ≤ 2 ∧ i = .int .i64 k ∧ FG wr w.heap.size v 2 k G C poZ ∧ Below w.heap.size w wr) (fun _ i _ => 2 - (intOf i).toNat)
  case atStart => exact ⟨0, fun _ => 0, fun _ => 0, by omega, rfl, FG.none_ _ _ _ _ _ _, Below.refl _ _⟩
  case round =>
    obtain ⟨k, G, C, hk, rfl, hg, hb⟩ := hrel
    have HG := Lib.hid hg; clear hg
    have hsz := hb.size
    have HB := Lib.hid hb; clear hb
    by_cases hlt : k < 2
    · have d4 : decide ((k : Int) < 2) = true := by simp; omega
      go_wp2_with fail
      obtain ⟨w1, hw1⟩ : ∃ w1 : World, w1 = wr := ⟨_, rfl⟩
      have HG1 := Lib.hid (hw1 ▸ HG.out)
      have HB1 := Lib.hid (hw1 ▸ HB.out : Below w.heap.size w w1)
      have hs1 : w.heap.size ≤ w1.heap.size := by rw [hw1]; exact hsz
      rw [← hw1]
      clear HG HB hsz hw1
      go_loopw [5, 6] (fun v i wr => ∃ j : Nat, j ≤ 2 ∧ i = .int .i64 j ∧ wr.ownsRow w1.heap.size 4 1 v j (bls (rowOf j (poZ k))) ∧ Below w1.heap.size w1 wr) (fun _ i _ => 2 - (intOf i).toNat)
      case atStart => exact ⟨0, by omega, rfl, World.ownsRow_nil _ _ _ _, Below.refl _ _⟩
      case round =>
        obtain ⟨j, hj, rfl, ho, hb⟩ := hrel
        have hsz := hb.size
        have HO := Lib.hid ho; clear ho
        have HB2 := Lib.hid hb; clear hb
        by_cases hjn : j < 2
        · have HR := Lib.hid (rowOf_succ j (poZ k))
          obtain ⟨z, hz⟩ : ∃ z, poZ k j = z := ⟨_, rfl⟩
          have e1 : (bits .and .i64 (k : Int) (j : Int) == (k : Int)) = z := hz
          have HZ := Lib.hid hz; clear hz
          have HO2 := Lib.hid (HO.out.alloc (.cells #[.bool z] 4))
          go_wp2_with (at_builtin; go_must (refine wpList_append_L 26 4 _ 1 Try.underlying26 inf_bool rfl rfl _ _ rfl w1.heap.size _ _ _ rfl HO2.out (wr.heap.size + 1) _ 1 1 [.bool z] rfl rfl (lies_new wr [.bool z] 4) ?c2 ?c3 ?c4 ?c5 ?_))
          case c2 => intro u hu; simp at hu; subst hu; rfl
          case c3 => omega
          case c4 => omega
          case c5 => simp; omega
          intro v3 w3 ho3 _ hb3
          have HO3 := Lib.hid ho3; clear ho3
          have HB3 := Lib.hid ((HB2.out.trans ((below_alloc wr (.cells #[.bool z] 4)).mono hsz)).trans hb3); clear hb3
          clear e1
          go_wp2_with fail
          go_roundw
          case rel => exact ⟨j + 1, by omega, by go_num, by rw [HR.out, HZ.out]; simpa [bls] using HO3.out, HB3.out⟩
          case measure => simp [intOf]; omega
        · obtain rfl : j = 2 := by omega
          have hr2 := HG1.out.below HB2.out
          obtain ⟨gk, ck, rfl, hr3⟩ := hr2.rows.snoc hs1 (fun j hj => HG1.out.rows.lt hj) (by omega) HO.out
          have HR3 := Lib.hid hr3; clear hr3
          have HF2 := Lib.hid hr2; clear hr2
          have HO2 := Lib.hid (HF2.out.own.alloc (.cells #[.slice (some ⟨gk, 0, none⟩) 2 ck] 26))
          go_wp2_with (at_builtin; go_must (refine wpList_append_L 22 26 _ 24 Try.underlying22 inf_row rfl rfl _ _ rfl w.heap.size _ _ _ rfl HO2.out (wr.heap.size + 1) _ 1 1 [.slice (some ⟨gk, 0, none⟩) 2 ck] rfl rfl (lies_new wr [.slice (some ⟨gk, 0, none⟩) 2 ck] 26) ?c2 ?c3 ?c4 ?c5 ?_))
          case c2 => intro u hu; simp at hu; subst hu; rfl
          case c3 => omega
          case c4 => omega
          case c5 => simp; omega
          intro v3 w3 ho3 hg3 hb3
          have HB3 := Lib.hid (((HB1.out.trans (HB2.out.mono hs1)).trans ((below_alloc wr (.cells #[.slice (some ⟨gk, 0, none⟩) 2 ck] 26)).mono (by omega))).trans hb3); clear hb3
          have hrow := (HR3.out.below (below_alloc wr (.cells #[.slice (some ⟨gk, 0, none⟩) 2 ck] 26))).grown HO2.out hg3
          have HFN : Hid (FG w3 w.heap.size v3 2 (k + 1) (fun i => if i = k then gk else G i) (fun i => if i = k then ck else C i) poZ) := Lib.hid ⟨by
            rw [hdrs_succ, hdrs_congr (G' := G) (C' := C) (fun i hi => by simp [show ¬ i = k by omega])]
            simpa using ho3, hrow⟩
          clear ho3 hg3 hrow
          go_wp2_with fail
          go_roundw
          case rel => exact ⟨k + 1, _, _, by omega, by go_num, HFN.out, HB3.out⟩
          case measure => simp [intOf]; omega
    · obtain rfl : k = 2 := by omega
      go_wp2_with fail
      go_ret
      exact ⟨_, G, C, rfl, HG.out, HB.out⟩

set_option maxHeartbeats 4000000 in
theorem refPow_2 (w : World) :
    Calls Try.prog 29 #[.int .i64 2] w fun e w' => ∃ v G C, e = .returned v ∧ FG w' w.heap.size v 4 4 G C poZ ∧ Below w.heap.size w w' := by
  go_enter Try.func29, Try.ntmps29
  go_wp2_with fail
  go_loopw [3, 4] (fun v i wr => ∃ (k : Nat) (G C : Nat → Nat), k ≤ 4 ∧ i = .int .i64 k ∧ FG wr w.heap.size v 4 k G C poZ ∧ Below w.heap.size w wr) (fun _ i _ => 4 - (intOf i).toNat)
  case atStart => exact ⟨0, fun _ => 0, fun _ => 0, by omega, rfl, FG.none_ _ _ _ _ _ _, Below.refl _ _⟩
  case round =>
    obtain ⟨k, G, C, hk, rfl, hg, hb⟩ := hrel
    have HG := Lib.hid hg; clear hg
    have hsz := hb.size
    have HB := Lib.hid hb; clear hb
    by_cases hlt : k < 4
    · have d4 : decide ((k : Int) < 4) = true := by simp; omega
      go_wp2_with fail
      obtain ⟨w1, hw1⟩ : ∃ w1 : World, w1 = wr := ⟨_, rfl⟩
      have HG1 := Lib.hid (hw1 ▸ HG.out)
      have HB1 := Lib.hid (hw1 ▸ HB.out : Below w.heap.size w w1)
      have hs1 : w.heap.size ≤ w1.heap.size := by rw [hw1]; exact hsz
      rw [← hw1]
      clear HG HB hsz hw1
      go_loopw [5, 6] (fun v i wr => ∃ j : Nat, j ≤ 4 ∧ i = .int .i64 j ∧ wr.ownsRow w1.heap.size 4 1 v j (bls (rowOf j (poZ k))) ∧ Below w1.heap.size w1 wr) (fun _ i _ => 4 - (intOf i).toNat)
      case atStart => exact ⟨0, by omega, rfl, World.ownsRow_nil _ _ _ _, Below.refl _ _⟩
      case round =>
        obtain ⟨j, hj, rfl, ho, hb⟩ := hrel
        have hsz := hb.size
        have HO := Lib.hid ho; clear ho
        have HB2 := Lib.hid hb; clear hb
        by_cases hjn : j < 4
        · have HR := Lib.hid (rowOf_succ j (poZ k))
          obtain ⟨z, hz⟩ : ∃ z, poZ k j = z := ⟨_, rfl⟩
          have e1 : (bits .and .i64 (k : Int) (j : Int) == (k : Int)) = z := hz
          have HZ := Lib.hid hz; clear hz
          have HO2 := Lib.hid (HO.out.alloc (.cells #[.bool z] 4))
          go_wp2_with (at_builtin; go_must (refine wpList_append_L 26 4 _ 1 Try.underlying26 inf_bool rfl rfl _ _ rfl w1.heap.size _ _ _ rfl HO2.out (wr.heap.size + 1) _ 1 1 [.bool z] rfl rfl (lies_new wr [.bool z] 4) ?c2 ?c3 ?c4 ?c5 ?_))
          case c2 => intro u hu; simp at hu; subst hu; rfl
          case c3 => omega
          case c4 => omega
          case c5 => simp; omega
          intro v3 w3 ho3 _ hb3
          have HO3 := Lib.hid ho3; clear ho3
          have HB3 := Lib.hid ((HB2.out.trans ((below_alloc wr (.cells #[.bool z] 4)).mono hsz)).trans hb3); clear hb3
          clear e1
          go_wp2_with fail
          go_roundw
          case rel => exact ⟨j + 1, by omega, by go_num, by rw [HR.out, HZ.out]; simpa [bls] using HO3.out, HB3.out⟩
          case measure => simp [intOf]; omega
        · obtain rfl : j = 4 := by omega
          have hr2 := HG1.out.below HB2.out
          obtain ⟨gk, ck, rfl, hr3⟩ := hr2.rows.snoc hs1 (fun j hj => HG1.out.rows.lt hj) (by omega) HO.out
          have HR3 := Lib.hid hr3; clear hr3
          have HF2 := Lib.hid hr2; clear hr2
          have HO2 := Lib.hid (HF2.out.own.alloc (.cells #[.slice (some ⟨gk, 0, none⟩) 4 ck] 26))
          go_wp2_with (at_builtin; go_must (refine wpList_append_L 22 26 _ 24 Try.underlying22 inf_row rfl rfl _ _ rfl w.heap.size _ _ _ rfl HO2.out (wr.heap.size + 1) _ 1 1 [.slice (some ⟨gk, 0, none⟩) 4 ck] rfl rfl (lies_new wr [.slice (some ⟨gk, 0, none⟩) 4 ck] 26) ?c2 ?c3 ?c4 ?c5 ?_))
          case c2 => intro u hu; simp at hu; subst hu; rfl
          case c3 => omega
          case c4 => omega
          case c5 => simp; omega
          intro v3 w3 ho3 hg3 hb3
          have HB3 := Lib.hid (((HB1.out.trans (HB2.out.mono hs1)).trans ((below_alloc wr (.cells #[.slice (some ⟨gk, 0, none⟩) 4 ck] 26)).mono (by omega))).trans hb3); clear hb3
          have hrow := (HR3.out.below (below_alloc wr (.cells #[.slice (some ⟨gk, 0, none⟩) 4 ck] 26))).grown HO2.out hg3
          have HFN : Hid (FG w3 w.heap.size v3 4 (k + 1) (fun i => if i = k then gk else G i) (fun i => if i = k then ck else C i) poZ) := Lib.hid ⟨by
            rw [hdrs_succ, hdrs_congr (G' := G) (C' := C) (fun i hi => by simp [show ¬ i = k by omega])]
            simpa using ho3, hrow⟩
          clear ho3 hg3 hrow
          go_wp2_with fail
          go_roundw
          case rel => exact ⟨k + 1, _, _, by omega, by go_num, HFN.out, HB3.out⟩
          case measure => simp [intOf]; omega
    · obtain rfl : k = 4 := by omega
      go_wp2_with fail
      go_ret
      exact ⟨_, G, C, rfl, HG.out, HB.out⟩

set_option maxHeartbeats 4000000 in
theorem refPow_3 (w : World) :
    Calls Try.prog 29 #[.int .i64 3] w fun e w' => ∃ v G C, e = .returned v ∧ FG w' w.heap.size v 8 8 G C poZ ∧ Below w.heap.size w w' := by
  go_enter Try.func29, Try.ntmps29
  go_wp2_with fail
  go_loopw [3, 4] (fun v i wr => ∃ (k : Nat) (G C : Nat → Nat), k ≤ 8 ∧ i = .int .i64 k ∧ FG wr w.heap.size v 8 k G C poZ ∧ Below w.heap.size w wr) (fun _ i _ => 8 - (intOf i).toNat)
  case atStart => exact ⟨0, fun _ => 0, fun _ => 0, by omega, rfl, FG.none_ _ _ _ _ _ _, Below.refl _ _⟩
  case round =>
    obtain ⟨k, G, C, hk, rfl, hg, hb⟩ := hrel
    have HG := Lib.hid hg; clear hg
    have hsz := hb.size
    have HB := Lib.hid hb; clear hb
    by_cases hlt : k < 8
    · have d4 : decide ((k : Int) < 8) = true := by simp; omega
      go_wp2_with fail
      obtain ⟨w1, hw1⟩ : ∃ w1 : World, w1 = wr := ⟨_, rfl⟩
      have HG1 := Lib.hid (hw1 ▸ HG.out)
      have HB1 := Lib.hid (hw1 ▸ HB.out : Below w.heap.size w w1)
      have hs1 : w.heap.size ≤ w1.heap.size := by rw [hw1]; exact hsz
      rw [← hw1]
      clear HG HB hsz hw1
      go_loopw [5, 6] (fun v i wr => ∃ j : Nat, j ≤ 8 ∧ i = .int .i64 j ∧ wr.ownsRow w1.heap.size 4 1 v j (bls (rowOf j (poZ k))) ∧ Below w1.heap.size w1 wr) (fun _ i _ => 8 - (intOf i).toNat)
      case atStart => exact ⟨0, by omega, rfl, World.ownsRow_nil _ _ _ _, Below.refl _ _⟩
      case round =>
        obtain ⟨j, hj, rfl, ho, hb⟩ := hrel
        have hsz := hb.size
        have HO := Lib.hid ho; clear ho
        have HB2 := Lib.hid hb; clear hb
        by_cases hjn : j < 8
        · have HR := Lib.hid (rowOf_succ j (poZ k))
          obtain ⟨z, hz⟩ : ∃ z, poZ k j = z := ⟨_, rfl⟩
          have e1 : (bits .and .i64 (k : Int) (j : Int) == (k : Int)) = z := hz
          have HZ := Lib.hid hz; clear hz
          have HO2 := Lib.hid (HO.out.alloc (.cells #[.bool z] 4))
          go_wp2_with (at_builtin; go_must (refine wpList_append_L 26 4 _ 1 Try.underlying26 inf_bool rfl rfl _ _ rfl w1.heap.size _ _ _ rfl HO2.out (wr.heap.size + 1) _ 1 1 [.bool z] rfl rfl (lies_new wr [.bool z] 4) ?c2 ?c3 ?c4 ?c5 ?_))
          case c2 => intro u hu; simp at hu; subst hu; rfl
          case c3 => omega
          case c4 => omega
          case c5 => simp; omega
          intro v3 w3 ho3 _ hb3
          have HO3 := Lib.hid ho3; clear ho3
          have HB3 := Lib.hid ((HB2.out.trans ((below_alloc wr (.cells #[.bool z] 4)).mono hsz)).trans hb3); clear hb3
          clear e1
          go_wp2_with fail
          go_roundw
          case rel => exact ⟨j + 1, by omega, by go_num, by rw [HR.out, HZ.out]; simpa [bls] using HO3.out, HB3.out⟩
          case measure => simp [intOf]; omega
        · obtain rfl : j = 8 := by omega
          have hr2 := HG1.out.below HB2.out
          obtain ⟨gk, ck, rfl, hr3⟩ := hr2.rows.snoc hs1 (fun j hj => HG1.out.rows.lt hj) (by omega) HO.out
          have HR3 := Lib.hid hr3; clear hr3
          have HF2 := Lib.hid hr2; clear hr2
          have HO2 := Lib.hid (HF2.out.own.alloc (.cells #[.slice (some ⟨gk, 0, none⟩) 8 ck] 26))
          go_wp2_with (at_builtin; go_must (refine wpList_append_L 22 26 _ 24 Try.underlying22 inf_row rfl rfl _ _ rfl w.heap.size _ _ _ rfl HO2.out (wr.heap.size + 1) _ 1 1 [.slice (some ⟨gk, 0, none⟩) 8 ck] rfl rfl (lies_new wr [.slice (some ⟨gk, 0, none⟩) 8 ck] 26) ?c2 ?c3 ?c4 ?c5 ?_))
          case c2 => intro u hu; simp at hu; subst hu; rfl
          case c3 => omega
          case c4 => omega
          case c5 => simp; omega
          intro v3 w3 ho3 hg3 hb3
          have HB3 := Lib.hid (((HB1.out.trans (HB2.out.mono hs1)).trans ((below_alloc wr (.cells #[.slice (some ⟨gk, 0, none⟩) 8 ck] 26)).mono (by omega))).trans hb3); clear hb3
          have hrow := (HR3.out.below (below_alloc wr (.cells #[.slice (some ⟨gk, 0, none⟩) 8 ck] 26))).grown HO2.out hg3
          have HFN : Hid (FG w3 w.heap.size v3 8 (k + 1) (fun i => if i = k then gk else G i) (fun i => if i = k then ck else C i) poZ) := Lib.hid ⟨by
            rw [hdrs_succ, hdrs_congr (G' := G) (C' := C) (fun i hi => by simp [show ¬ i = k by omega])]
            simpa using ho3, hrow⟩
          clear ho3 hg3 hrow
          go_wp2_with fail
          go_roundw
          case rel => exact ⟨k + 1, _, _, by omega, by go_num, HFN.out, HB3.out⟩
          case measure => simp [intOf]; omega
    · obtain rfl : k = 8 := by omega
      go_wp2_with fail
      go_ret
      exact ⟨_, G, C, rfl, HG.out, HB.out⟩

set_option maxHeartbeats 4000000 in
theorem refPow_4 (w : World) :
    Calls Try.prog 29 #[.int .i64 4] w fun e w' => ∃ v G C, e = .returned v ∧ FG w' w.heap.size v 16 16 G C poZ ∧ Below w.heap.size w w' := by
  go_enter Try.func29, Try.ntmps29
  go_wp2_with fail
  go_loopw [3, 4] (fun v i wr => ∃ (k : Nat) (G C : Nat → Nat), k ≤ 16 ∧ i = .int .i64 k ∧ FG wr w.heap.size v 16 k G C poZ ∧ Below w.heap.size w wr) (fun _ i _ => 16 - (intOf i).toNat)
  case atStart => exact ⟨0, fun _ => 0, fun _ => 0, by omega, rfl, FG.none_ _ _ _ _ _ _, Below.refl _ _⟩
  case round =>
    obtain ⟨k, G, C, hk, rfl, hg, hb⟩ := hrel
    have HG := Lib.hid hg; clear hg
    have hsz := hb.size
    have HB := Lib.hid hb; clear hb
    by_cases hlt : k < 16
    · have d4 : decide ((k : Int) < 16) = true := by simp; omega
      go_wp2_with fail
      obtain ⟨w1, hw1⟩ : ∃ w1 : World, w1 = wr := ⟨_, rfl⟩
      have HG1 := Lib.hid (hw1 ▸ HG.out)
      have HB1 := Lib.hid (hw1 ▸ HB.out : Below w.heap.size w w1)
      have hs1 : w.heap.size ≤ w1.heap.size := by rw [hw1]; exact hsz
      rw [← hw1]
      clear HG HB hsz hw1
      go_loopw [5, 6] (fun v i wr => ∃ j : Nat, j ≤ 16 ∧ i = .int .i64 j ∧ wr.ownsRow w1.heap.size 4 1 v j (bls (rowOf j (poZ k))) ∧ Below w1.heap.size w1 wr) (fun _ i _ => 16 - (intOf i).toNat)
      case atStart => exact ⟨0, by omega, rfl, World.ownsRow_nil _ _ _ _, Below.refl _ _⟩
      case round =>
        obtain ⟨j, hj, rfl, ho, hb⟩ := hrel
        have hsz := hb.size
        have HO := Lib.hid ho; clear ho
        have HB2 := Lib.hid hb; clear hb
        by_cases hjn : j < 16
        · have HR := Lib.hid (rowOf_succ j (poZ k))
          obtain ⟨z, hz⟩ : ∃ z, poZ k j = z := ⟨_, rfl⟩
          have e1 : (bits .and .i64 (k : Int) (j : Int) == (k : Int)) = z := hz
          have HZ := Lib.hid hz; clear hz
          have HO2 := Lib.hid (HO.out.alloc (.cells #[.bool z] 4))
          go_wp2_with (at_builtin; go_must (refine wpList_append_L 26 4 _ 1 Try.underlying26 inf_bool rfl rfl _ _ rfl w1.heap.size _ _ _ rfl HO2.out (wr.heap.size + 1) _ 1 1 [.bool z] rfl rfl (lies_new wr [.bool z] 4) ?c2 ?c3 ?c4 ?c5 ?_))
          case c2 => intro u hu; simp at hu; subst hu; rfl
          case c3 => omega
          case c4 => omega
          case c5 => simp; omega
          intro v3 w3 ho3 _ hb3
          have HO3 := Lib.hid ho3; clear ho3
          have HB3 := Lib.hid ((HB2.out.trans ((below_alloc wr (.cells #[.bool z] 4)).mono hsz)).trans hb3); clear hb3
          clear e1
          go_wp2_with fail
          go_roundw
          case rel => exact ⟨j + 1, by omega, by go_num, by rw [HR.out, HZ.out]; simpa [bls] using HO3.out, HB3.out⟩
          case measure => simp [intOf]; omega
        · obtain rfl : j = 16 := by omega
          have hr2 := HG1.out.below HB2.out
          obtain ⟨gk, ck, rfl, hr3⟩ := hr2.rows.snoc hs1 (fun j hj => HG1.out.rows.lt hj) (by omega) HO.out
          have HR3 := Lib.hid hr3; clear hr3
          have HF2 := Lib.hid hr2; clear hr2
          have HO2 := Lib.hid (HF2.out.own.alloc (.cells #[.slice (some ⟨gk, 0, none⟩) 16 ck] 26))
          go_wp2_with (at_builtin; go_must (refine wpList_append_L 22 26 _ 24 Try.underlying22 inf_row rfl rfl _ _ rfl w.heap.size _ _ _ rfl HO2.out (wr.heap.size + 1) _ 1 1 [.slice (some ⟨gk, 0, none⟩) 16 ck] rfl rfl (lies_new wr [.slice (some ⟨gk, 0, none⟩) 16 ck] 26) ?c2 ?c3 ?c4 ?c5 ?_))
          case c2 => intro u hu; simp at hu; subst hu; rfl
          case c3 => omega
          case c4 => omega
          case c5 => simp; omega
          intro v3 w3 ho3 hg3 hb3
          have HB3 := Lib.hid (((HB1.out.trans (HB2.out.mono hs1)).trans ((below_alloc wr (.cells #[.slice (some ⟨gk, 0, none⟩) 16 ck] 26)).mono (by omega))).trans hb3); clear hb3
          have hrow := (HR3.out.below (below_alloc wr (.cells #[.slice (some ⟨gk, 0, none⟩) 16 ck] 26))).grown HO2.out hg3
          have HFN : Hid (FG w3 w.heap.size v3 16 (k + 1) (fun i => if i = k then gk else G i) (fun i => if i = k then ck else C i) poZ) := Lib.hid ⟨by
            rw [hdrs_succ, hdrs_congr (G' := G) (C' := C) (fun i hi => by simp [show ¬ i = k by omega])]
            simpa using ho3, hrow⟩
          clear ho3 hg3 hrow
          go_wp2_with fail
          go_roundw
          case rel => exact ⟨k + 1, _, _, by omega, by go_num, HFN.out, HB3.out⟩
          case measure => simp [intOf]; omega
    · obtain rfl : k = 16 := by omega
      go_wp2_with fail
      go_ret
      exact ⟨_, G, C, rfl, HG.out, HB.out⟩

theorem refPow_in (n : Nat) (h : n ≤ 4) (w : World) : Calls Try.prog 29 #[.int .i64 n] w fun e w' => ∃ v G C, e = .returned v ∧ FG w' w.heap.size v (2 ^ n) (2 ^ n) G C poZ ∧ Below w.heap.size w w' := by
  have h' : n = 0 ∨ n = 1 ∨ n = 2 ∨ n = 3 ∨ n = 4 := by omega
  rcases h' with rfl | rfl | rfl | rfl | rfl
  · exact refPow_0 w
  · exact refPow_1 w
  · exact refPow_2 w
  · exact refPow_3 w
  · exact refPow_4 w

theorem powers_out (i : Int) (h : ¬ (0 ≤ i ∧ i ≤ 4)) (w : World) : Calls Try.prog 28 #[.int .i64 i] w (TabMade w []) := by
  by_cases hlo : i < 0
  · have e1 : decide (i < 0) = true := by simpa using hlo
    clear h hlo
    go_enter Try.func28, Try.ntmps28
    go_wp2_with fail
    go_ret
    exact ⟨_, rfl, tab_nil _ _, Below.refl _ _⟩
  · have e1 : decide (i < 0) = false := by simpa using hlo
    have e2 : decide (4 < i) = true := by simp; omega
    clear h hlo
    go_enter Try.func28, Try.ntmps28
    go_wp2_with fail
    go_ret
    exact ⟨_, rfl, tab_nil _ _, Below.refl _ _⟩

theorem chains_out (i : Int) (h : ¬ (1 ≤ i ∧ i ≤ 16)) (w : World) : Calls Try.prog 30 #[.int .i64 i] w (TabMade w []) := by
  by_cases hlo : i < 1
  · have e1 : decide (i < 1) = true := by simpa using hlo
    clear h hlo
    go_enter Try.func30, Try.ntmps30
    go_wp2_with fail
    go_ret
    exact ⟨_, rfl, tab_nil _ _, Below.refl _ _⟩
  · have e1 : decide (i < 1) = false := by simpa using hlo
    have e2 : decide (16 < i) = true := by simp; omega
    clear h hlo
    go_enter Try.func30, Try.ntmps30
    go_wp2_with fail
    go_ret
    exact ⟨_, rfl, tab_nil _ _, Below.refl _ _⟩

theorem refPow_out (i : Int) (h : ¬ (0 ≤ i ∧ i ≤ 4)) (w : World) : Calls Try.prog 29 #[.int .i64 i] w (TabMade w []) := by
  by_cases hlo : i < 0
  · have e1 : decide (i < 0) = true := by simpa using hlo
    clear h hlo
    go_enter Try.func29, Try.ntmps29
    go_wp2_with fail
    go_ret
    exact ⟨_, rfl, tab_nil _ _, Below.refl _ _⟩
  · have e1 : decide (i < 0) = false := by simpa using hlo
    have e2 : decide (4 < i) = true := by simp; omega
    clear h hlo
    go_enter Try.func29, Try.ntmps29
    go_wp2_with fail
    go_ret
    exact ⟨_, rfl, tab_nil _ _, Below.refl _ _⟩

theorem refChain_out (i : Int) (h : ¬ (1 ≤ i ∧ i ≤ 16)) (w : World) : Calls Try.prog 31 #[.int .i64 i] w (TabMade w []) := by
  by_cases hlo : i < 1
  · have e1 : decide (i < 1) = true := by simpa using hlo
    clear h hlo
    go_enter Try.func31, Try.ntmps31
    go_wp2_with fail
    go_ret
    exact ⟨_, rfl, tab_nil _ _, Below.refl _ _⟩
  · have e1 : decide (i < 1) = false := by simpa using hlo
    have e2 : decide (16 < i) = true := by simp; omega
    clear h hlo
    go_enter Try.func31, Try.ntmps31
    go_wp2_with fail
    go_ret
    exact ⟨_, rfl, tab_nil _ _, Below.refl _ _⟩

theorem powT_yes {n : Nat} (h : n ≤ 4) : powT (n : Int) = tabOf (2 ^ n) poZ := by
  unfold powT
  rw [if_pos (by omega), Int.toNat_natCast]
theorem powT_no {i : Int} (h : ¬ (0 ≤ i ∧ i ≤ 4)) : powT i = [] := by unfold powT; rw [if_neg h]
theorem chT_yes {n : Nat} (h1 : 1 ≤ n) (h2 : n ≤ 16) : chT (n : Int) = tabOf n chZ := by
  unfold chT
  rw [if_pos (by omega), Int.toNat_natCast]
theorem chT_no {i : Int} (h : ¬ (1 ≤ i ∧ i ≤ 16)) : chT i = [] := by unfold chT; rw [if_neg h]

theorem powers_any (i : Int) (w : World) : Calls Try.prog 28 #[.int .i64 i] w (TabMade w (powT i)) := by
  by_cases h : 0 ≤ i ∧ i ≤ 4
  · obtain ⟨n, rfl⟩ : ∃ n : Nat, i = n := ⟨i.toNat, by omega⟩
    have hn : n ≤ 4 := by omega
    rw [powT_yes hn]
    exact powers_in n (2 ^ n) hn (pow_small hn).1 (pow_small hn).2 (pow_wrap hn) w
  · rw [powT_no h]; exact powers_out i h w
theorem chains_any (i : Int) (w : World) : Calls Try.prog 30 #[.int .i64 i] w (TabMade w (chT i)) := by
  by_cases h : 1 ≤ i ∧ i ≤ 16
  · obtain ⟨n, rfl⟩ : ∃ n : Nat, i = n := ⟨i.toNat, by omega⟩
    rw [chT_yes (by omega) (by omega)]
    exact chains_in n (by omega) (by omega) w
  · rw [chT_no h]; exact chains_out i h w
theorem refPow_any (i : Int) (w : World) : Calls Try.prog 29 #[.int .i64 i] w (TabMade w (powT i)) := by
  by_cases h : 0 ≤ i ∧ i ≤ 4
  · obtain ⟨n, rfl⟩ : ∃ n : Nat, i = n := ⟨i.toNat, by omega⟩
    have hn : n ≤ 4 := by omega
    rw [powT_yes hn]
    refine (refPow_in n hn w).mono ?_
    rintro e w' ⟨v, G, C, he, hg, hb⟩
    exact hg.made he hb
  · rw [powT_no h]; exact refPow_out i h w
theorem refChain_any (i : Int) (w : World) : Calls Try.prog 31 #[.int .i64 i] w (TabMade w (chT i)) := by
  by_cases h : 1 ≤ i ∧ i ≤ 16
  · obtain ⟨n, rfl⟩ : ∃ n : Nat, i = n := ⟨i.toNat, by omega⟩
    rw [chT_yes (by omega) (by omega)]
    refine (chain_any n (by omega) (by omega) w).mono ?_
    rintro e w' ⟨v, G, C, he, hg, hb⟩
    exact hg.made he hb
  · rw [chT_no h]; exact refChain_out i h w

end Go.Proofs.Ytidjohhnggpibaa
