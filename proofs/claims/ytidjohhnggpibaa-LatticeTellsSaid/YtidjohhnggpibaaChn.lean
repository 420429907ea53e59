/- Chain and Powers, by the reference. -/
import Derived.Test.YtidjohhnggpibaaMake
namespace Go.Proofs.Ytidjohhnggpibaa
open Go.RowKit

def chZ (a b : Nat) : Bool := decide ((a : Int) ≤ (b : Int))
def poZ (a b : Nat) : Bool := bits .and .i64 (a : Int) (b : Int) == (a : Int)

set_option maxHeartbeats 4000000 in
theorem chain_any (n : Nat) (h1 : 1 ≤ n) (h2 : n ≤ 16) (w : World) :
    Calls Try.prog 31 #[.int .i64 n] w fun e w' => ∃ v G C, e = .returned v ∧ FG w' w.heap.size v n n G C chZ ∧ Below w.heap.size w w' := by
  go_enter Try.func31, Try.ntmps31
  go_wp2_with fail
  go_loopw [3, 4] (fun v i wr => ∃ (k : Nat) (G C : Nat → Nat), k ≤ n ∧ i = .int .i64 k ∧ FG wr w.heap.size v n k G C chZ ∧ Below w.heap.size w wr) (fun _ i _ => n - (intOf i).toNat)
  case atStart => exact ⟨0, fun _ => 0, fun _ => 0, by omega, rfl, FG.none_ _ _ _ _ _ _, Below.refl _ _⟩
  case round =>
    obtain ⟨k, G, C, hk, rfl, hg, hb⟩ := hrel
    have HG := Lib.hid hg; clear hg
    have hsz := hb.size
    have HB := Lib.hid hb; clear hb
    by_cases hlt : k < n
    · go_wp2_with fail
      obtain ⟨w1, hw1⟩ : ∃ w1 : World, w1 = wr := ⟨_, rfl⟩
      have HG1 := Lib.hid (hw1 ▸ HG.out)
      have HB1 := Lib.hid (hw1 ▸ HB.out : Below w.heap.size w w1)
      have hs1 : w.heap.size ≤ w1.heap.size := by rw [hw1]; exact hsz
      rw [← hw1]
      clear HG HB hsz hw1
      go_loopw [5, 6] (fun v i wr => ∃ j : Nat, j ≤ n ∧ i = .int .i64 j ∧ wr.ownsRow w1.heap.size 4 1 v j (bls (rowOf j (chZ k))) ∧ Below w1.heap.size w1 wr) (fun _ i _ => n - (intOf i).toNat)
      case atStart => exact ⟨0, by omega, rfl, World.ownsRow_nil _ _ _ _, Below.refl _ _⟩
      case round =>
        obtain ⟨j, hj, rfl, ho, hb⟩ := hrel
        have hsz := hb.size
        have HO := Lib.hid ho; clear ho
        have HB2 := Lib.hid hb; clear hb
        by_cases hjn : j < n
        · have HR := Lib.hid (rowOf_succ j (chZ k))
          obtain ⟨z, hz⟩ : ∃ z, chZ k j = z := ⟨_, rfl⟩
          have e1 : decide ((k : Int) ≤ (j : Int)) = z := hz
          have e2 : decide (k ≤ j) = z := by rw [← hz]; simp [chZ]
          have HZ := Lib.hid hz; clear hz
          have HO2 := Lib.hid (HO.out.alloc (.cells #[.bool z] 4))
          go_wp2_with (at_builtin; go_must (refine wpList_append_L 26 4 _ 1 Try.underlying26 inf_bool rfl rfl _ _ rfl w1.heap.size _ _ _ rfl HO2.out (wr.heap.size + 1) _ 1 1 [.bool z] rfl rfl (lies_new wr [.bool z] 4) ?c2 ?c3 ?c4 ?c5 ?_))
          case c2 => intro u hu; simp at hu; subst hu; rfl
          case c3 => omega
          case c4 => omega
          case c5 => simp; omega
          intro v3 w3 ho3 _ hb3
          have HO3 := Lib.hid ho3; clear ho3
          have HB3 := Lib.hid ((HB2.out.trans ((below_alloc wr (.cells #[.bool z] 4)).mono hsz)).trans hb3); clear hb3
          clear e1 e2
          go_wp2_with fail
          go_roundw
          case rel => exact ⟨j + 1, by omega, by go_num, by rw [HR.out, HZ.out]; simpa [bls] using HO3.out, HB3.out⟩
          case measure => simp [intOf]; omega
        · obtain rfl : j = n := by omega
          have hr2 := HG1.out.below HB2.out
          obtain ⟨gk, ck, rfl, hr3⟩ := hr2.rows.snoc hs1 (fun j hj => HG1.out.rows.lt hj) h1 HO.out
          have HR3 := Lib.hid hr3; clear hr3
          have HF2 := Lib.hid hr2; clear hr2
          have HO2 := Lib.hid (HF2.out.own.alloc (.cells #[.slice (some ⟨gk, 0, none⟩) j ck] 26))
          go_wp2_with (at_builtin; go_must (refine wpList_append_L 22 26 _ 24 Try.underlying22 inf_row rfl rfl _ _ rfl w.heap.size _ _ _ rfl HO2.out (wr.heap.size + 1) _ 1 1 [.slice (some ⟨gk, 0, none⟩) j ck] rfl rfl (lies_new wr [.slice (some ⟨gk, 0, none⟩) j ck] 26) ?c2 ?c3 ?c4 ?c5 ?_))
          case c2 => intro u hu; simp at hu; subst hu; rfl
          case c3 => omega
          case c4 => omega
          case c5 => simp; omega
          intro v3 w3 ho3 hg3 hb3
          have HB3 := Lib.hid (((HB1.out.trans (HB2.out.mono hs1)).trans ((below_alloc wr (.cells #[.slice (some ⟨gk, 0, none⟩) j ck] 26)).mono (by omega))).trans hb3); clear hb3
          have hrow := (HR3.out.below (below_alloc wr (.cells #[.slice (some ⟨gk, 0, none⟩) j ck] 26))).grown HO2.out hg3
          have HFN : Hid (FG w3 w.heap.size v3 j (k + 1) (fun i => if i = k then gk else G i) (fun i => if i = k then ck else C i) chZ) := Lib.hid ⟨by
            rw [hdrs_succ, hdrs_congr (G' := G) (C' := C) (fun i hi => by simp [show ¬ i = k by omega])]
            simpa using ho3, hrow⟩
          clear ho3 hg3 hrow
          go_wp2_with fail
          go_roundw
          case rel => exact ⟨k + 1, _, _, by omega, by go_num, HFN.out, HB3.out⟩
          case measure => simp [intOf]; omega
    · obtain rfl : k = n := by omega
      go_wp2_with fail
      go_ret
      exact ⟨_, G, C, rfl, HG.out, HB.out⟩

set_option maxHeartbeats 4000000 in
theorem pow_any (w : World) :
    Calls Try.prog 29 #[.int .i64 2] w fun e w' => ∃ v G C, e = .returned v ∧ FG w' w.heap.size v 4 4 G C poZ ∧ Below w.heap.size w w' := by
  go_enter Try.func29, Try.ntmps29
  go_wp2_with fail
  go_loopw [3, 4] (fun v i wr => ∃ (k : Nat) (G C : Nat → Nat), k ≤ 4 ∧ i = .int .i64 k ∧ FG wr w.heap.size v 4 k G C poZ ∧ Below w.heap.size w wr) (fun _ i _ => 4 - (intOf i).toNat)
  case atStart => exact ⟨0, fun _ => 0, fun _ => 0, by omega, rfl, FG.none_ _ _ _ _ _ _, Below.refl _ _⟩
  case round =>
    obtain ⟨k, G, C, hk, rfl, hg, hb⟩ := hrel
    have HG := Lib.hid hg; clear hg
    have hsz := hb.size
    have HB := Lib.hid hb; clear hb
    by_cases hlt : k < 4
    · have d4 : decide ((k : Int) < 4) = true := by simp; omega
      go_wp2_with fail
      obtain ⟨w1, hw1⟩ : ∃ w1 : World, w1 = wr := ⟨_, rfl⟩
      have HG1 := Lib.hid (hw1 ▸ HG.out)
      have HB1 := Lib.hid (hw1 ▸ HB.out : Below w.heap.size w w1)
      have hs1 : w.heap.size ≤ w1.heap.size := by rw [hw1]; exact hsz
      rw [← hw1]
      clear HG HB hsz hw1
      go_loopw [5, 6] (fun v i wr => ∃ j : Nat, j ≤ 4 ∧ i = .int .i64 j ∧ wr.ownsRow w1.heap.size 4 1 v j (bls (rowOf j (poZ k))) ∧ Below w1.heap.size w1 wr) (fun _ i _ => 4 - (intOf i).toNat)
      case atStart => exact ⟨0, by omega, rfl, World.ownsRow_nil _ _ _ _, Below.refl _ _⟩
      case round =>
        obtain ⟨j, hj, rfl, ho, hb⟩ := hrel
        have hsz := hb.size
        have HO := Lib.hid ho; clear ho
        have HB2 := Lib.hid hb; clear hb
        by_cases hjn : j < 4
        · have HR := Lib.hid (rowOf_succ j (poZ k))
          obtain ⟨z, hz⟩ : ∃ z, poZ k j = z := ⟨_, rfl⟩
          have e1 : (bits .and .i64 (k : Int) (j : Int) == (k : Int)) = z := hz
          have HZ := Lib.hid hz; clear hz
          have HO2 := Lib.hid (HO.out.alloc (.cells #[.bool z] 4))
          go_wp2_with (at_builtin; go_must (refine wpList_append_L 26 4 _ 1 Try.underlying26 inf_bool rfl rfl _ _ rfl w1.heap.size _ _ _ rfl HO2.out (wr.heap.size + 1) _ 1 1 [.bool z] rfl rfl (lies_new wr [.bool z] 4) ?c2 ?c3 ?c4 ?c5 ?_))
          case c2 => intro u hu; simp at hu; subst hu; rfl
          case c3 => omega
          case c4 => omega
          case c5 => simp; omega
          intro v3 w3 ho3 _ hb3
          have HO3 := Lib.hid ho3; clear ho3
          have HB3 := Lib.hid ((HB2.out.trans ((below_alloc wr (.cells #[.bool z] 4)).mono hsz)).trans hb3); clear hb3
          clear e1
          go_wp2_with fail
          go_roundw
          case rel => exact ⟨j + 1, by omega, by go_num, by rw [HR.out, HZ.out]; simpa [bls] using HO3.out, HB3.out⟩
          case measure => simp [intOf]; omega
        · obtain rfl : j = 4 := by omega
          have hr2 := HG1.out.below HB2.out
          obtain ⟨gk, ck, rfl, hr3⟩ := hr2.rows.snoc hs1 (fun j hj => HG1.out.rows.lt hj) (by omega) HO.out
          have HR3 := Lib.hid hr3; clear hr3
          have HF2 := Lib.hid hr2; clear hr2
          have HO2 := Lib.hid (HF2.out.own.alloc (.cells #[.slice (some ⟨gk, 0, none⟩) 4 ck] 26))
          go_wp2_with (at_builtin; go_must (refine wpList_append_L 22 26 _ 24 Try.underlying22 inf_row rfl rfl _ _ rfl w.heap.size _ _ _ rfl HO2.out (wr.heap.size + 1) _ 1 1 [.slice (some ⟨gk, 0, none⟩) 4 ck] rfl rfl (lies_new wr [.slice (some ⟨gk, 0, none⟩) 4 ck] 26) ?c2 ?c3 ?c4 ?c5 ?_))
          case c2 => intro u hu; simp at hu; subst hu; rfl
          case c3 => omega
          case c4 => omega
          case c5 => simp; omega
          intro v3 w3 ho3 hg3 hb3
          have HB3 := Lib.hid (((HB1.out.trans (HB2.out.mono hs1)).trans ((below_alloc wr (.cells #[.slice (some ⟨gk, 0, none⟩) 4 ck] 26)).mono (by omega))).trans hb3); clear hb3
          have hrow := (HR3.out.below (below_alloc wr (.cells #[.slice (some ⟨gk, 0, none⟩) 4 ck] 26))).grown HO2.out hg3
          have HFN : Hid (FG w3 w.heap.size v3 4 (k + 1) (fun i => if i = k then gk else G i) (fun i => if i = k then ck else C i) poZ) := Lib.hid ⟨by
            rw [hdrs_succ, hdrs_congr (G' := G) (C' := C) (fun i hi => by simp [show ¬ i = k by omega])]
            simpa using ho3, hrow⟩
          clear ho3 hg3 hrow
          go_wp2_with fail
          go_roundw
          case rel => exact ⟨k + 1, _, _, by omega, by go_num, HFN.out, HB3.out⟩
          case measure => simp [intOf]; omega
    · obtain rfl : k = 4 := by omega
      go_wp2_with fail
      go_ret
      exact ⟨_, G, C, rfl, HG.out, HB.out⟩

end Go.Proofs.Ytidjohhnggpibaa
