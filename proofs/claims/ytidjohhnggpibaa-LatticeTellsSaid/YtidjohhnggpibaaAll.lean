/- All bounds of all pairs, by the program. -/
import Derived.Test.YtidjohhnggpibaaPairs
import Derived.Test.YtidjohhnggpibaaMakeI
namespace Go.Proofs.Ytidjohhnggpibaa
open Go.RowKit

def jOkB (n : Nat) (Z : Nat → Nat → Bool) : Bool := allB n fun a => allB n fun b => (jnO n Z a b).isSome
theorem pairsB_two (n : Nat) (Z : Nat → Nat → Bool) : pairsB n Z = (jOkB n Z && jOkB n (flipZ Z)) := by
  rw [Bool.eq_iff_iff, Bool.and_eq_true]
  unfold pairsB jOkB
  simp only [allB_iff, Bool.and_eq_true]
  exact ⟨fun h => ⟨fun a ha b hb => (h a ha b hb).1, fun a ha b hb => (h a ha b hb).2⟩, fun h a ha b hb => ⟨h.1 a ha b hb, h.2 a ha b hb⟩⟩
theorem jOk_no {n a b : Nat} {Z : Nat → Nat → Bool} (ha : a < n) (hb : b < n) (h : (jnO n Z a b).isSome = false) : jOkB n Z = false := allB_no ha (allB_no hb h)
/-- What allPairs leaves: all bounds, or nothing. -/
def AllMade (w : World) (n : Nat) (Z : Nat → Nat → Bool) (e : Ending) (w' : World) : Prop := Below w.heap.size w w' ∧
  ((jOkB n Z = true ∧ ∃ v G C, e = .returned (.tuple #[v, .bool true]) ∧ FI w' w.heap.size v n n G C (jnN n Z)) ∨ (jOkB n Z = false ∧ e = .returned (.tuple #[.slice none 0 0, .bool false])))
theorem tup_two (o : Option Nat) : ∃ (r : Nat) (s : Bool), ansZ o = .tuple #[.int .i64 (r : Int), .bool s] ∧ o.isSome = s ∧ o.getD 0 = r := ⟨_, _, rfl, rfl, rfl⟩
theorem i64s_one (x : Nat) (l : List Nat) : i64s (nats (l ++ [x])) = i64s (nats l) ++ [.int .i64 (x : Int)] := by simp [i64s, nats]

set_option maxHeartbeats 4000000 in
theorem pairs_join {g bq cq n : Nat} {T : List (List Bool)} (w : World) (hT : TabV w w.heap.size (.slice (some ⟨bq, 0, none⟩) n cq) T) (hs : sqB T = true) (hn : T.length = n) (hc : w.cell? ⟨g, 0, none⟩ = some (.slice (some ⟨bq, 0, none⟩) n cq)) (hg : g < w.heap.size) :
    Calls Try.prog 38 #[.pointer (some ⟨g, 0, none⟩), .func (.func 39) #[.pointer (some ⟨g, 0, none⟩)] #[]] w (AllMade w n (atT T)) := by
  obtain ⟨h1, h2⟩ : 1 ≤ n ∧ n ≤ 16 := by have := sqB_iff.1 hs; omega
  have HHO := Lib.hid (show HoldL w g (.slice (some ⟨bq, 0, none⟩) n cq) T 0 w from ⟨hT, hc, hg, Below.refl _ _⟩)
  have HJ := Lib.hid (show ∀ (w' : World) (a b : Nat), a < n → b < n → HoldL w g (.slice (some ⟨bq, 0, none⟩) n cq) T 0 w' → Calls Try.prog 39 #[.pointer (some ⟨g, 0, none⟩), .int .i64 a, .int .i64 b] w' (Found w' (jnO n (atT T) a b)) from fun w' a b ha hb h => by
    have := leastUpper_any (g := g) (T := T) (a : Int) (b : Int) w' (by omega) h.c h.lt h.tab
    rw [join_eq hs (by omega) (by omega), hn] at this
    exact this)
  generalize hZ : (atT T) = Z at *
  clear hZ hT hc hg hs hn
  go_enter Try.func38, Try.ntmps38
  have hc0 := HHO.out.c
  go_wp2_with fail
  clear hc0
  go_loopw [6, 17] (fun v i wr => ∃ (k : Nat) (G C : Nat → Nat), k ≤ n ∧ i = .int .i64 k ∧ FI wr w.heap.size v n k G C (jnN n Z) ∧ (∀ a, a < k → ∀ b, b < n → (jnO n Z a b).isSome = true) ∧ Below w.heap.size w wr) (fun _ i _ => n - (intOf i).toNat)
  case atStart => exact ⟨0, fun _ => 0, fun _ => 0, by omega, rfl, FI.none_ _ _ _ _ _ _, fun _ h => by omega, Below.refl _ _⟩
  case round =>
    obtain ⟨k, G, C, hk, rfl, hf, hall, hb⟩ := hrel
    have HF := Lib.hid hf; clear hf
    have HAL := Lib.hid hall; clear hall
    have hsz := hb.size
    have hcr := (HHO.out.step (k' := 0) hb).c
    have HB := Lib.hid hb; clear hb
    by_cases hkn : k < n
    · go_wp2_with fail
      clear hcr
      obtain ⟨w1, hw1⟩ : ∃ w1 : World, w1 = wr := ⟨_, rfl⟩
      have HF1 := Lib.hid (hw1 ▸ HF.out)
      have HB1 := Lib.hid (hw1 ▸ HB.out : Below w.heap.size w w1)
      have hs1 : w.heap.size ≤ w1.heap.size := by rw [hw1]; exact hsz
      rw [← hw1]
      clear HF HB hsz hw1
      go_loopw [8, 25] (fun v i wr => ∃ j : Nat, j ≤ n ∧ i = .int .i64 j ∧ wr.ownsRow w1.heap.size 3 1 v j (i64s (nats (rowI j (jnN n Z k)))) ∧ (∀ b, b < j → (jnO n Z k b).isSome = true) ∧ Below w1.heap.size w1 wr) (fun _ i _ => n - (intOf i).toNat)
      case atStart => exact ⟨0, by omega, rfl, World.ownsRow_nil _ _ _ _, fun _ h => by omega, Below.refl _ _⟩
      case round =>
        obtain ⟨j, hj, rfl, ho, hrow, hb⟩ := hrel
        have hsz := hb.size
        have HO := Lib.hid ho; clear ho
        have HRW := Lib.hid hrow; clear hrow
        have HB2 := Lib.hid hb; clear hb
        have HBW := Lib.hid (nextB HB1.out HB2.out)
        have hcq := (HHO.out.step (k' := 0) HBW.out).c
        by_cases hjn : j < n
        · go_wp2_with fail
          refine (HJ.out wr k j hkn hjn (HHO.out.step (k' := 0) HBW.out)).mono ?_
          obtain ⟨r, s, hrs, his, hr⟩ := tup_two (jnO n Z k j)
          rintro e wA ⟨rfl, hbA⟩
          rw [hrs]
          have HBA := Lib.hid (HB2.out.trans (hbA.mono hsz))
          have HOA := Lib.hid (own_below HO.out hbA)
          have hsA := HBA.out.size
          clear hbA hrs
          cases s with
          | false =>
            have HNO := Lib.hid (jOk_no hkn hjn his)
            have HBE := Lib.hid (nextB HB1.out HBA.out)
            clear his hr
            go_wp2_with fail
            go_ret2
            exact ⟨HBE.out, .inr ⟨HNO.out, rfl⟩⟩
          | true =>
            have HRW2 := Lib.hid (all_next HRW.out his)
            have HRS := Lib.hid (show rowI (j + 1) (jnN n Z k) = rowI j (jnN n Z k) ++ [r] by rw [rowI_succ]; unfold jnN; rw [hr])
            clear his hr
            have HO2 := Lib.hid (HOA.out.alloc (.cells #[.int .i64 (r : Int)] 3))
            go_wp2_with (at_builtin; go_must (refine wpList_append_L 41 3 _ 8 Try.underlying41 inf_int rfl rfl _ _ rfl w1.heap.size _ _ _ rfl HO2.out (wA.heap.size + 1) _ 1 1 [.int .i64 (r : Int)] rfl rfl (lies_new wA [.int .i64 (r : Int)] 3) ?c2 ?c3 ?c4 ?c5 ?_))
            case c2 => intro u hu; simp at hu; subst hu; rfl
            case c3 => omega
            case c4 => omega
            case c5 => simp; omega
            intro v3 w3 ho3 _ hb3
            have HO3 := Lib.hid ho3; clear ho3
            have HB3 := Lib.hid ((HBA.out.trans ((below_alloc wA (.cells #[.int .i64 (r : Int)] 3)).mono hsA)).trans hb3); clear hb3
            go_wp2_with fail
            go_roundw
            case rel => exact ⟨j + 1, by omega, by go_num, by rw [HRS.out, i64s_one]; exact HO3.out, HRW2.out, HB3.out⟩
            case measure => simp [intOf]; omega
        · obtain rfl : j = n := by omega
          have hr2 := HF1.out.below HB2.out
          obtain ⟨gk, ck, rfl, hr3⟩ := hr2.rows.snoc hs1 h1 HO.out
          have HR3 := Lib.hid hr3; clear hr3
          have HF2 := Lib.hid hr2; clear hr2
          have HALN := Lib.hid (all_next HAL.out HRW.out)
          have HO2 := Lib.hid (HF2.out.own.alloc (.cells #[.slice (some ⟨gk, 0, none⟩) j ck] 41))
          go_wp2_with (at_builtin; go_must (refine wpList_append_L 52 41 _ 24 Try.underlying52 inf_rowI rfl rfl _ _ rfl w.heap.size _ _ _ rfl HO2.out (wr.heap.size + 1) _ 1 1 [.slice (some ⟨gk, 0, none⟩) j ck] rfl rfl (lies_new wr [.slice (some ⟨gk, 0, none⟩) j ck] 41) ?c2 ?c3 ?c4 ?c5 ?_))
          case c2 => intro u hu; simp at hu; subst hu; rfl
          case c3 => omega
          case c4 => omega
          case c5 => simp; omega
          intro v3 w3 ho3 hg3 hb3
          have HB3 := Lib.hid ((HBW.out.trans ((below_alloc wr (.cells #[.slice (some ⟨gk, 0, none⟩) j ck] 41)).mono (by omega))).trans hb3); clear hb3
          have hrow := (HR3.out.below (below_alloc wr (.cells #[.slice (some ⟨gk, 0, none⟩) j ck] 41))).grown HO2.out hg3
          have HFN := Lib.hid (show FI w3 w.heap.size v3 j (k + 1) (fun i => if i = k then gk else G i) (fun i => if i = k then ck else C i) (jnN j Z) from ⟨by
            rw [hdrs_succ, hdrs_congr (G' := G) (C' := C) (fun i hi => by simp [show ¬ i = k by omega])]
            simpa using ho3, hrow⟩)
          clear ho3 hg3 hrow
          go_wp2_with fail
          go_roundw
          case rel => exact ⟨k + 1, _, _, by omega, by go_num, HFN.out, HALN.out, HB3.out⟩
          case measure => simp [intOf]; omega
    · obtain rfl : k = n := by omega
      have HYES := Lib.hid (show jOkB k Z = true from allB_iff.2 fun a ha => allB_iff.2 fun b hb => HAL.out a ha b hb)
      go_wp2_with fail
      go_ret2
      exact ⟨HB.out, .inl ⟨HYES.out, _, G, C, rfl, HF.out⟩⟩

set_option maxHeartbeats 4000000 in
theorem pairs_meet {g bq cq n : Nat} {T : List (List Bool)} (w : World) (hT : TabV w w.heap.size (.slice (some ⟨bq, 0, none⟩) n cq) T) (hs : sqB T = true) (hn : T.length = n) (hc : w.cell? ⟨g, 0, none⟩ = some (.slice (some ⟨bq, 0, none⟩) n cq)) (hg : g < w.heap.size) :
    Calls Try.prog 38 #[.pointer (some ⟨g, 0, none⟩), .func (.func 40) #[.pointer (some ⟨g, 0, none⟩)] #[]] w (AllMade w n (flipZ (atT T))) := by
  obtain ⟨h1, h2⟩ : 1 ≤ n ∧ n ≤ 16 := by have := sqB_iff.1 hs; omega
  have HHO := Lib.hid (show HoldL w g (.slice (some ⟨bq, 0, none⟩) n cq) T 0 w from ⟨hT, hc, hg, Below.refl _ _⟩)
  have HJ := Lib.hid (show ∀ (w' : World) (a b : Nat), a < n → b < n → HoldL w g (.slice (some ⟨bq, 0, none⟩) n cq) T 0 w' → Calls Try.prog 40 #[.pointer (some ⟨g, 0, none⟩), .int .i64 a, .int .i64 b] w' (Found w' (jnO n (flipZ (atT T)) a b)) from fun w' a b ha hb h => by
    have := greatestLower_any (g := g) (T := T) (a : Int) (b : Int) w' (by omega) h.c h.lt h.tab
    rw [meet_eq hs (by omega) (by omega), hn] at this
    exact this)
  generalize hZ : (flipZ (atT T)) = Z at *
  clear hZ hT hc hg hs hn
  go_enter Try.func38, Try.ntmps38
  have hc0 := HHO.out.c
  go_wp2_with fail
  clear hc0
  go_loopw [6, 17] (fun v i wr => ∃ (k : Nat) (G C : Nat → Nat), k ≤ n ∧ i = .int .i64 k ∧ FI wr w.heap.size v n k G C (jnN n Z) ∧ (∀ a, a < k → ∀ b, b < n → (jnO n Z a b).isSome = true) ∧ Below w.heap.size w wr) (fun _ i _ => n - (intOf i).toNat)
  case atStart => exact ⟨0, fun _ => 0, fun _ => 0, by omega, rfl, FI.none_ _ _ _ _ _ _, fun _ h => by omega, Below.refl _ _⟩
  case round =>
    obtain ⟨k, G, C, hk, rfl, hf, hall, hb⟩ := hrel
    have HF := Lib.hid hf; clear hf
    have HAL := Lib.hid hall; clear hall
    have hsz := hb.size
    have hcr := (HHO.out.step (k' := 0) hb).c
    have HB := Lib.hid hb; clear hb
    by_cases hkn : k < n
    · go_wp2_with fail
      clear hcr
      obtain ⟨w1, hw1⟩ : ∃ w1 : World, w1 = wr := ⟨_, rfl⟩
      have HF1 := Lib.hid (hw1 ▸ HF.out)
      have HB1 := Lib.hid (hw1 ▸ HB.out : Below w.heap.size w w1)
      have hs1 : w.heap.size ≤ w1.heap.size := by rw [hw1]; exact hsz
      rw [← hw1]
      clear HF HB hsz hw1
      go_loopw [8, 25] (fun v i wr => ∃ j : Nat, j ≤ n ∧ i = .int .i64 j ∧ wr.ownsRow w1.heap.size 3 1 v j (i64s (nats (rowI j (jnN n Z k)))) ∧ (∀ b, b < j → (jnO n Z k b).isSome = true) ∧ Below w1.heap.size w1 wr) (fun _ i _ => n - (intOf i).toNat)
      case atStart => exact ⟨0, by omega, rfl, World.ownsRow_nil _ _ _ _, fun _ h => by omega, Below.refl _ _⟩
      case round =>
        obtain ⟨j, hj, rfl, ho, hrow, hb⟩ := hrel
        have hsz := hb.size
        have HO := Lib.hid ho; clear ho
        have HRW := Lib.hid hrow; clear hrow
        have HB2 := Lib.hid hb; clear hb
        have HBW := Lib.hid (nextB HB1.out HB2.out)
        have hcq := (HHO.out.step (k' := 0) HBW.out).c
        by_cases hjn : j < n
        · go_wp2_with fail
          refine (HJ.out wr k j hkn hjn (HHO.out.step (k' := 0) HBW.out)).mono ?_
          obtain ⟨r, s, hrs, his, hr⟩ := tup_two (jnO n Z k j)
          rintro e wA ⟨rfl, hbA⟩
          rw [hrs]
          have HBA := Lib.hid (HB2.out.trans (hbA.mono hsz))
          have HOA := Lib.hid (own_below HO.out hbA)
          have hsA := HBA.out.size
          clear hbA hrs
          cases s with
          | false =>
            have HNO := Lib.hid (jOk_no hkn hjn his)
            have HBE := Lib.hid (nextB HB1.out HBA.out)
            clear his hr
            go_wp2_with fail
            go_ret2
            exact ⟨HBE.out, .inr ⟨HNO.out, rfl⟩⟩
          | true =>
            have HRW2 := Lib.hid (all_next HRW.out his)
            have HRS := Lib.hid (show rowI (j + 1) (jnN n Z k) = rowI j (jnN n Z k) ++ [r] by rw [rowI_succ]; unfold jnN; rw [hr])
            clear his hr
            have HO2 := Lib.hid (HOA.out.alloc (.cells #[.int .i64 (r : Int)] 3))
            go_wp2_with (at_builtin; go_must (refine wpList_append_L 41 3 _ 8 Try.underlying41 inf_int rfl rfl _ _ rfl w1.heap.size _ _ _ rfl HO2.out (wA.heap.size + 1) _ 1 1 [.int .i64 (r : Int)] rfl rfl (lies_new wA [.int .i64 (r : Int)] 3) ?c2 ?c3 ?c4 ?c5 ?_))
            case c2 => intro u hu; simp at hu; subst hu; rfl
            case c3 => omega
            case c4 => omega
            case c5 => simp; omega
            intro v3 w3 ho3 _ hb3
            have HO3 := Lib.hid ho3; clear ho3
            have HB3 := Lib.hid ((HBA.out.trans ((below_alloc wA (.cells #[.int .i64 (r : Int)] 3)).mono hsA)).trans hb3); clear hb3
            go_wp2_with fail
            go_roundw
            case rel => exact ⟨j + 1, by omega, by go_num, by rw [HRS.out, i64s_one]; exact HO3.out, HRW2.out, HB3.out⟩
            case measure => simp [intOf]; omega
        · obtain rfl : j = n := by omega
          have hr2 := HF1.out.below HB2.out
          obtain ⟨gk, ck, rfl, hr3⟩ := hr2.rows.snoc hs1 h1 HO.out
          have HR3 := Lib.hid hr3; clear hr3
          have HF2 := Lib.hid hr2; clear hr2
          have HALN := Lib.hid (all_next HAL.out HRW.out)
          have HO2 := Lib.hid (HF2.out.own.alloc (.cells #[.slice (some ⟨gk, 0, none⟩) j ck] 41))
          go_wp2_with (at_builtin; go_must (refine wpList_append_L 52 41 _ 24 Try.underlying52 inf_rowI rfl rfl _ _ rfl w.heap.size _ _ _ rfl HO2.out (wr.heap.size + 1) _ 1 1 [.slice (some ⟨gk, 0, none⟩) j ck] rfl rfl (lies_new wr [.slice (some ⟨gk, 0, none⟩) j ck] 41) ?c2 ?c3 ?c4 ?c5 ?_))
          case c2 => intro u hu; simp at hu; subst hu; rfl
          case c3 => omega
          case c4 => omega
          case c5 => simp; omega
          intro v3 w3 ho3 hg3 hb3
          have HB3 := Lib.hid ((HBW.out.trans ((below_alloc wr (.cells #[.slice (some ⟨gk, 0, none⟩) j ck] 41)).mono (by omega))).trans hb3); clear hb3
          have hrow := (HR3.out.below (below_alloc wr (.cells #[.slice (some ⟨gk, 0, none⟩) j ck] 41))).grown HO2.out hg3
          have HFN := Lib.hid (show FI w3 w.heap.size v3 j (k + 1) (fun i => if i = k then gk else G i) (fun i => if i = k then ck else C i) (jnN j Z) from ⟨by
            rw [hdrs_succ, hdrs_congr (G' := G) (C' := C) (fun i hi => by simp [show ¬ i = k by omega])]
            simpa using ho3, hrow⟩)
          clear ho3 hg3 hrow
          go_wp2_with fail
          go_roundw
          case rel => exact ⟨k + 1, _, _, by omega, by go_num, HFN.out, HALN.out, HB3.out⟩
          case measure => simp [intOf]; omega
    · obtain rfl : k = n := by omega
      have HYES := Lib.hid (show jOkB k Z = true from allB_iff.2 fun a ha => allB_iff.2 fun b hb => HAL.out a ha b hb)
      go_wp2_with fail
      go_ret2
      exact ⟨HB.out, .inl ⟨HYES.out, _, G, C, rfl, HF.out⟩⟩

end Go.Proofs.Ytidjohhnggpibaa
