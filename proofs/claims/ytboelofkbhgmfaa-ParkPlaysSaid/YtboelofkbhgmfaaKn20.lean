/- Law 20's known. -/
import Derived.Test.YtboelofkbhgmfaaPf20
namespace Go.Proofs.Ytboelofkbhgmfaa
set_option maxRecDepth 100000
open Go.RowKit

theorem one_of {l : List SlotX} {t : TK} (h : l.map Prod.fst = [t]) : ∃ x, l = [x] ∧ x.1 = t := by
  have hl : l.length = 1 := by have := congrArg List.length h; simpa using this
  obtain ⟨x, rfl⟩ := List.length_eq_one_iff.1 hl
  exact ⟨x, rfl, (List.cons.inj h).1⟩
theorem one_w {l : List WaitX} {t : TK × Int} (h : l.map pairW = [t]) : ∃ x, l = [x] ∧ pairW x = t := by
  have hl : l.length = 1 := by have := congrArg List.length h; simpa using this
  obtain ⟨x, rfl⟩ := List.length_eq_one_iff.1 hl
  exact ⟨x, rfl, (List.cons.inj h).1⟩
theorem pf_start {w w1 w2 w3 : World} {S : Nat → Prop} {a f : Nat} {qs : List Int} {Ls : List (List FutX)} (hb : Below w.heap.size w w1) (hA : FuV w2 (fun b => w1.heap.size ≤ b ∧ b < w2.heap.size) f qs Ls) (hb2 : Below w1.heap.size w1 w2)
    (hk : PkK w3 S a (.slice none 0 0) []) (hS : ∀ i, S i → w2.heap.size ≤ i) (hb3 : Below w2.heap.size w2 w3) : PfK w w3 a f qs Ls [] := by
  have s1 := hb.size
  have s2 := hb2.size
  have hV : PkV w3 S a [] := ⟨_, [], hk, rfl⟩
  refine ⟨⟨S, fun b => w1.heap.size ≤ b ∧ b < w2.heap.size, hV, hA.below hb3, ?_, ?_, ?_⟩, (hb.trans (hb2.mono s1)).trans (hb3.mono (Nat.le_trans s1 s2))⟩
  · intro i h1 h2
    have h3 := hS i h1
    have h4 := h2.2
    omega
  · intro i h1
    have h3 := hS i h1
    omega
  · intro i h1
    have h4 := h1.1
    omega
def f20 : List (List FutX) := [[⟨0, 1, 1, 0⟩, zF]]
def m20 : List (TK × Int) := [(idT 5, 0), (idT 6, 1), (idT 7, 1)]

set_option maxRecDepth 100000 in
set_option maxHeartbeats 8000000 in
theorem known20_any (w : World) : Calls Try.prog 42 #[] w fun e w' => e = .returned (.bool true) ∧ Below w.heap.size w w' := by
  obtain ⟨w1, hw1⟩ : ∃ w1, w1 = w.alloc (.cells #[.int .i64 3] 3) := ⟨_, rfl⟩
  have B1 : Hid (Below w.heap.size w w1) := Lib.hid (by rw [hw1]; exact below_alloc w _)
  have HN := Lib.hid (fuNew_any (.slice (some ⟨w.heap.size, 0, none⟩) 1 1) [3] w1 (by rw [hw1]; exact numv_lit w [3]) (by decide))
  have HW1 := Lib.hid hw1
  clear hw1
  go_enter Try.func42, Try.ntmps42
  go_wp2_with fail
  rw [← HW1.out]
  with_reducible refine HN.out.mono ?_
  rintro e w2 ⟨f, rfl, hA, hb⟩
  have A2 : Hid (FuV w2 (fun b => w1.heap.size ≤ b ∧ b < w2.heap.size) f [3] [[]]) := Lib.hid hA
  have B2 := Lib.hid hb
  clear hA hb HN
  go_wp2_with fail
  refine (pkNew_any w2).mono ?_
  rintro e w3 ⟨S, a, rfl, hk, hS, hb⟩
  have P3 := Lib.hid (pf_start B1.out A2.out B2.out hk hS hb)
  clear hk hS hb A2
  go_wp2_with fail
  have M1 := Lib.hid (pfMake_any P3.out 0 0 (by decide))
  refine M1.out.mono ?_
  clear M1
  rintro e w4 ⟨rfl, h4⟩
  rw [show mkId [3] ([[]] : List (List FutX)) 0 = 0 from rfl, show mkB [3] ([[]] : List (List FutX)) 0 = true from rfl]
  have P4 : Hid (PfK w w4 a f [3] [[zF]] []) := Lib.hid h4
  clear h4 P3
  go_wp2_with fail
  have M1 := Lib.hid (pfMake_any P4.out 0 0 (by decide))
  refine M1.out.mono ?_
  clear M1
  rintro e w5 ⟨rfl, h5⟩
  rw [show mkId [3] ([[zF]] : List (List FutX)) 0 = 1 from rfl, show mkB [3] ([[zF]] : List (List FutX)) 0 = true from rfl]
  have P5 : Hid (PfK w w5 a f [3] [[zF, zF]] []) := Lib.hid h5
  clear h5 P4
  go_wp2_with fail
  have M1 := Lib.hid (pfKeep_any P5.out 0 1 (by decide))
  refine M1.out.mono ?_
  clear M1
  rintro e w6 ⟨rfl, h6⟩
  rw [show openB ([[zF, zF]] : List (List FutX)) 0 = true from rfl]
  have P6 : Hid (PfK w w6 a f [3] f20 []) := Lib.hid h6
  clear h6 P5
  go_wp2_with fail
  have M1 := Lib.hid (pfAdd_any P6.out (by decide) (idT 5) 0 rfl)
  refine M1.out.mono ?_
  clear M1
  rintro e w7 ⟨rfl, h7⟩
  have P7 : Hid (PfK w w7 a f [3] f20 [(idT 5, 0)]) := Lib.hid h7
  clear h7 P6
  go_wp2_with fail
  have M1 := Lib.hid (pfAdd_any P7.out (by decide) (idT 6) 1 rfl)
  refine M1.out.mono ?_
  clear M1
  rintro e w8 ⟨rfl, h8⟩
  have P8 : Hid (PfK w w8 a f [3] f20 [(idT 5, 0), (idT 6, 1)]) := Lib.hid h8
  clear h8 P7
  go_wp2_with fail
  have M1 := Lib.hid (pfAdd_any P8.out (by decide) (idT 7) 1 rfl)
  refine M1.out.mono ?_
  clear M1
  rintro e w9 ⟨rfl, h9⟩
  have P9 : Hid (PfK w w9 a f [3] f20 m20) := Lib.hid h9
  clear h9 P8
  go_wp2_with fail
  have M1 := Lib.hid (pfLook_any P9.out (by intro x hx; simp [m20] at hx; rcases hx with rfl | rfl | rfl <;> simp) (by decide) 2 2 (by decide) (by decide))
  refine M1.out.mono ?_
  clear M1
  rintro e wA ⟨v1, v2, L1, L2, rfl, o1, e1, o2, e2, hP⟩
  obtain ⟨x1, rfl, hx1⟩ := one_of (t := idT 5) e1
  obtain ⟨x2, rfl, hx2⟩ := one_of (t := idT 7) e2
  obtain ⟨A1, c1, rfl⟩ := o1.shape
  obtain ⟨A2, c2, rfl⟩ := o2.shape
  obtain ⟨g1, rfl, d1⟩ := own_id (j := 0) o1 rfl
  obtain ⟨g2, rfl, d2⟩ := own_id (j := 0) o2 rfl
  rw [hx1] at d1
  rw [hx2] at d2
  have d1' : wA.cell? ⟨g1, 0, none⟩ = some (.int .i32 5) := d1
  have d2' : wA.cell? ⟨g2, 0, none⟩ = some (.int .i32 7) := d2
  have PA : Hid (PfK w wA a f [3] f20 [(idT 6, 1)]) := Lib.hid hP
  have HLN := Lib.hid (pfLen_any PA.out)
  rw [show ((min 2 m20.length : Nat)) = 2 from rfl]
  rw [show ((2 - 2 : Nat) : Int) = 0 from rfl]
  rw [show ([x1] : List SlotX).length = 1 from rfl, show ([x2] : List SlotX).length = 1 from rfl]
  clear hP o1 o2 e1 e2 hx1 hx2 d1 d2 P9
  go_wp2_with fail
  refine HLN.out.mono ?_
  rintro e _ ⟨rfl, rfl⟩
  have M1 := Lib.hid (pfAll_any PA.out (by decide))
  go_wp2_with fail
  refine M1.out.mono ?_
  clear M1
  rintro e wB ⟨v3, Lk, rfl, hA, hL, hP⟩
  obtain ⟨x3, rfl, hx3⟩ : ∃ x, Lk = [x] ∧ pairW x = (idT 6, 1) := one_w hL
  obtain ⟨A3, c3, rfl⟩ := OwnW.shape hA.own
  have PB := Lib.hid hP
  rw [show ([x3] : List WaitX).length = 1 from rfl]
  clear hP hA hL
  go_wp2_with fail
  have M1 := Lib.hid (pfAll_any PB.out (by decide))
  refine M1.out.mono ?_
  clear M1
  rintro e wC ⟨v4, Lk, rfl, hA, hL, hP⟩
  obtain ⟨x4, rfl, hx4⟩ : ∃ x, Lk = [x] ∧ pairW x = (idT 6, 1) := one_w hL
  obtain ⟨A4, c4, rfl⟩ := OwnW.shape hA.own
  obtain ⟨g4, rfl, _, d4⟩ := all_cell (j := 0) hA rfl
  have e4 : x4.2 = 1 := congrArg Prod.snd hx4
  rw [e4] at d4
  have d4' : wC.cell? ⟨g4, 12, none⟩ = some (.int .i32 1) := d4
  have HF : Hid (Below w.heap.size w wC) := Lib.hid hP.bl
  rw [show ([x4] : List WaitX).length = 1 from rfl]
  clear hP hA hL d4 e4 hx4 hx3
  go_wp2_with fail
  go_ret
  exact ⟨rfl, HF.out⟩

end Go.Proofs.Ytboelofkbhgmfaa
