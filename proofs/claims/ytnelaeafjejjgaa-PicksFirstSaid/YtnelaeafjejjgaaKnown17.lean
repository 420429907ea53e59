/- The walk of known (law 17). -/
import Derived.Test.YtnelaeafjejjgaaRp17
namespace Go.Proofs.Ytnelaeafjejjgaa
set_option maxRecDepth 100000
open Go.RowKit

theorem pair_below {W w w' : World} {p g : Nat} (hb : Below W.heap.size W w) (hf : Frm (Pair p g) w w') (hp : W.heap.size ≤ p) (hg : W.heap.size ≤ g) : Below W.heap.size W w' :=
  hb.trans (hf.below hb.size (fun k _ e => by rcases e with e | e <;> (rw [show k = _ from e]; assumption)))
theorem one_below {W w w' : World} {g : Nat} (hb : Below W.heap.size W w) (hf : Frm (One g) w w') (hg : W.heap.size ≤ g) : Below W.heap.size W w' :=
  hb.trans (hf.below hb.size (fun k _ e => by rw [show k = g from e]; exact hg))
theorem byts (l : List Int) (h : l.all (fun x => decide (0 ≤ x) && decide (x ≤ 255)) = true) : IsByt l := fun x hx => by
  have := List.all_eq_true.1 h x hx
  simpa using this
theorem bytv_new (w : World) (l : List Int) : BytV (w.alloc (.cells (u8L l).toArray 5)) (w.alloc (.cells (u8L l).toArray 5)).heap.size (.slice (some ⟨w.heap.size, 0, none⟩) l.length l.length) l :=
  ⟨_, _, rfl, Nat.le_refl _, (lies_new w (u8L l) 5).more (by simp)⟩

set_option maxRecDepth 100000 in
set_option maxHeartbeats 8000000 in
theorem known17_any (w : World) : Calls Try.prog 26 #[] w fun e w' => e = .returned (.bool true) ∧ Below w.heap.size w w' := by
  obtain ⟨wa, hwa⟩ : ∃ wa, wa = w.alloc (.cells #[.int .u8 5, .int .u8 3] 5) := ⟨_, rfl⟩
  have HBA : Hid (BytV wa wa.heap.size (.slice (some ⟨w.heap.size, 0, none⟩) 2 2) [5, 3]) := Lib.hid (by rw [hwa]; exact bytv_new w [5, 3])
  have BA : Hid (Below w.heap.size w wa) := Lib.hid (by rw [hwa]; exact below_alloc w _)
  have HWA := Lib.hid hwa
  clear hwa
  have HP1 := Lib.hid (newPicks_any _ [5, 3] 7 wa HBA.out (by decide))
  rw [show seed1 7 = 7 from rfl] at HP1
  have h7 : Hid (7 < 18446744073709551616) := Lib.hid (by decide)
  have HN1 := Lib.hid (fun lo p g w (h : PicksB w lo p g [5, 3] 7) => nextPick_any 2 2 lo p g 7 [5, 3] w h h7.out (byts _ (by decide)) (.inr ⟨by decide, rfl⟩) (by decide) (by decide))
  have HN2 := Lib.hid (fun lo p g w (h : PicksB w lo p g [3] 7) => nextPick_any 0 1 lo p g 7 [3] w h h7.out (byts _ (by decide)) (.inl ⟨by decide, rfl⟩) (by decide) (by decide))
  have HN3 := Lib.hid (fun lo p g w (h : PicksB w lo p g [] 7) => nextPick_any 4 4 lo p g 7 [] w h h7.out (byts _ (by decide)) (.inr ⟨by decide, rfl⟩) (by decide) (by decide))
  have HR3 := Lib.hid (fun B p w (h : RPB w B p [] 7) => rpNext_any 4 4 B p 7 [] w h h7.out (byts _ (by decide)) (.inr ⟨by decide, rfl⟩) (by decide) (by decide))
  have HNR := Lib.hid (fun w => newRP_any 0 (.slice none 0 0) [] 7 w ⟨none, 0, rfl, Nat.le_refl _, Lies.nil⟩ (Nat.zero_le _))
  rw [show seed1 7 = 7 from rfl] at HNR
  rw [show pickV [5, 3] 7 2 = 1 from rfl, show pickS [5, 3] 7 = 7 from rfl, show ([5, 3] : List Int).tail = [3] from rfl] at HN1
  rw [show pickV [3] 7 1 = 0 from rfl, show pickS [3] 7 = 7 from rfl, show ([3] : List Int).tail = [] from rfl] at HN2
  obtain ⟨v, hv⟩ : ∃ v, pickV [] 7 4 = v := ⟨_, rfl⟩
  obtain ⟨s, hs⟩ : ∃ s, pickS [] 7 = s := ⟨_, rfl⟩
  rw [hv, hs] at HN3 HR3
  have ev : (v == v) = true := beq_self_eq_true _
  clear hv hs
  go_enter Try.func26, Try.ntmps26
  go_wp2_with fail
  rw [← HWA.out]
  refine HP1.out.mono ?_
  rintro e w1 ⟨p, g, rfl, hp, hb⟩
  have P1 := Lib.hid hp; have B1 := Lib.hid (BA.out.trans (hb.mono BA.out.size))
  have hlo : w.heap.size ≤ g ∧ w.heap.size ≤ p := by have := BA.out.size; have := hp.lo; have := hp.lt; omega
  clear hp hb HP1 HBA BA
  go_wp2_with fail
  refine (HN1.out _ p g w1 P1.out).mono ?_
  rintro e w2 ⟨rfl, hp, hf⟩
  have P2 := Lib.hid hp; have B2 := Lib.hid (pair_below B1.out hf hlo.2 hlo.1)
  clear hp hf P1 B1
  go_wp2_with fail
  refine (HN2.out _ p g w2 P2.out).mono ?_
  rintro e w3 ⟨rfl, hp, hf⟩
  have P3 := Lib.hid hp; have B3 := Lib.hid (pair_below B2.out hf hlo.2 hlo.1)
  clear hp hf P2 B2
  go_wp2_with fail
  refine (left_any p g _ [] 7 w3 P3.out).mono ?_
  rintro e w' ⟨rfl, rfl⟩
  rw [show ((([] : List Int).length : Nat) : Int) = 0 from rfl]
  go_wp2_with fail
  refine (HN3.out _ p g w3 P3.out).mono ?_
  rintro e w4 ⟨rfl, hp, hf⟩
  have B4 := Lib.hid (pair_below B3.out hf hlo.2 hlo.1)
  clear hp hf P3 B3
  go_wp2_with fail
  refine (HNR.out w4).mono ?_
  rintro e w5 ⟨q, rfl, hq, hle, hb⟩
  have Q5 := Lib.hid hq; have B5 := Lib.hid (B4.out.trans (hb.mono B4.out.size))
  have hlq : w.heap.size ≤ q := Nat.le_trans B4.out.size hle
  clear hq hb hle B4
  go_wp2_with fail
  refine (HR3.out 0 q w5 Q5.out).mono ?_
  rintro e w6 ⟨rfl, hq, hf⟩
  have B6 := Lib.hid (one_below B5.out hf hlq)
  clear hq hf Q5 B5
  obtain ⟨wb, hwb⟩ : ∃ wb, wb = w6.alloc (.cells #[.int .u8 1] 5) := ⟨_, rfl⟩
  have HBB : Hid (BytV wb wb.heap.size (.slice (some ⟨w6.heap.size, 0, none⟩) 1 1) [1]) := Lib.hid (by rw [hwb]; exact bytv_new w6 [1])
  have BB : Hid (Below w.heap.size w wb) := Lib.hid (by rw [hwb]; exact B6.out.alloc B6.out.size _)
  have HWB := Lib.hid hwb
  have HPB := Lib.hid (newPicks_any _ [1] 0 wb HBB.out (by decide))
  clear hwb
  go_wp2_with fail
  rw [← HWB.out]
  refine HPB.out.mono ?_
  rintro e w7 ⟨p2, g2, rfl, hp, hb⟩
  have P7 := Lib.hid hp; have B7 := Lib.hid (BB.out.trans (hb.mono BB.out.size))
  clear hp hb HPB HBB BB
  go_wp2_with fail
  refine (left_any p2 g2 _ [1] _ w7 P7.out).mono ?_
  rintro e w' ⟨rfl, rfl⟩
  rw [show ((([1] : List Int).length : Nat) : Int) = 1 from rfl]
  go_wp2_with fail
  go_ret
  exact ⟨rfl, B7.out⟩

end Go.Proofs.Ytnelaeafjejjgaa
