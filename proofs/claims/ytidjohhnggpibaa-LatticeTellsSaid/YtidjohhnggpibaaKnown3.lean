/- SameTables; what is known. -/
import Derived.Test.YtidjohhnggpibaaSeat
namespace Go.Proofs.Ytidjohhnggpibaa
open Go.RowKit

set_option maxHeartbeats 2000000 in
theorem same_grid {B B2 b1 o1 c1 b2 o2 c2 n : Nat} {G1 O1 C1 G2 O2 C2 : Nat → Nat} {Z : Nat → Nat → Bool} (w : World) (hn : n ≤ 16) (h1 : Grid w B b1 o1 n G1 O1 C1 Z) (h2 : Grid w B2 b2 o2 n G2 O2 C2 Z) :
    Calls Try.prog 27 #[.slice (some ⟨b1, o1, none⟩) n c1, .slice (some ⟨b2, o2, none⟩) n c2] w fun e w' => e = .returned (.bool true) ∧ Below w.heap.size w w' := by
  have H1 := Lib.hid h1; clear h1
  have H2 := Lib.hid h2; clear h2
  go_enter Try.func27, Try.ntmps27
  go_wp2_with fail
  go_loopw [5] (fun i wr => ∃ k : Nat, k ≤ n ∧ i = .int .i64 k ∧ Below w.heap.size w wr ∧ ∀ q, wr.cell? q = w.cell? q) (fun i _ => n - (intOf i).toNat)
  case atStart => exact ⟨0, by omega, rfl, Below.refl _ _, fun _ => rfl⟩
  case round =>
    obtain ⟨k, hk, rfl, hb, hce⟩ := hrel
    have HB := Lib.hid hb; clear hb
    have HC := Lib.hid hce; clear hce
    by_cases hlt : k < n
    · have t1 := H1.out.top k hlt
      have t2 := H2.out.top k hlt
      rw [← HC.out] at t1 t2
      have i1 : (0 : Int) ≤ (k : Int) ∧ (k : Int) < n := by omega
      go_wp2_with fail
      go_quiet (fail)
      go_wp2_with fail
      clear t1 t2
      obtain ⟨w1, hw1⟩ : ∃ w1 : World, w1 = wr.drewN nq := ⟨_, rfl⟩
      have HB1 := Lib.hid (hw1 ▸ below_drewN HB.out nq : Below w.heap.size w w1)
      have HC1 := Lib.hid (show ∀ q, w1.cell? q = w.cell? q from fun q => by rw [hw1]; exact HC.out q)
      rw [← hw1]
      clear HB HC hw1
      go_loopw [6] (fun i wr => ∃ j : Nat, j ≤ n ∧ i = .int .i64 j ∧ Below w.heap.size w wr ∧ ∀ q, wr.cell? q = w.cell? q) (fun i _ => n - (intOf i).toNat)
      case atStart => exact ⟨0, by omega, rfl, HB1.out, HC1.out⟩
      case round =>
        clear HB1 HC1
        obtain ⟨j, hj, rfl, hb, hce⟩ := hrel
        have HB := Lib.hid hb; clear hb
        have HC := Lib.hid hce; clear hce
        have t1 := H1.out.top k hlt
        have t2 := H2.out.top k hlt
        rw [← HC.out] at t1 t2
        by_cases hjn : j < n
        · have u1 := H1.out.cel k j hlt hjn
          have u2 := H2.out.cel k j hlt hjn
          rw [← HC.out] at u1 u2
          have i2 : (0 : Int) ≤ (j : Int) ∧ (j : Int) < n := by omega
          generalize Z k j = z at *
          have ez : (z != z) = false := by simp
          go_wp2_with fail
          go_quiet (fail)
          go_wp2_with fail
          go_roundw
          case rel => exact ⟨j + 1, by omega, by go_num, below_drewN HB.out _, fun q => HC.out q⟩
          case measure => simp [intOf]; omega
        · obtain rfl : j = n := by omega
          go_wp2_with fail
          go_roundw
          case rel => exact ⟨k + 1, by omega, by go_num, HB.out, HC.out⟩
          case measure => simp [intOf]; omega
    · obtain rfl : k = n := by omega
      go_wp2_with fail
      go_ret
      exact ⟨rfl, HB.out⟩

theorem same_nil {A A2 : Option Addr} {c c2 : Nat} (w : World) : Calls Try.prog 27 #[.slice A 0 c, .slice A2 0 c2] w fun e w' => e = .returned (.bool true) ∧ Below w.heap.size w w' := by
  go_enter Try.func27, Try.ntmps27
  go_wp2_with fail
  refine wp_loop_rounds 1 ?_
  rw [rounds_succ]
  go_wp2_with fail
  go_ret
  exact ⟨rfl, Below.refl _ _⟩

theorem same_any {B B2 : Nat} {u v : Value} {T : List (List Bool)} (w : World) (hs : T = [] ∨ sqB T = true) (hu : TabV w B u T) (hv : TabV w B2 v T) :
    Calls Try.prog 27 #[u, v] w fun e w' => e = .returned (.bool true) ∧ Below w.heap.size w w' := by
  rcases hs with rfl | hs
  · obtain ⟨A, c, rs, rfl, h1, _⟩ := hu
    obtain ⟨A2, c2, rs2, rfl, h2, _⟩ := hv
    rw [List.eq_nil_of_map_eq_nil h1, List.eq_nil_of_map_eq_nil h2]
    exact same_nil w
  · obtain ⟨_, h2, b, off, c, G, O, C, rfl, hg⟩ := grid_of hu hs
    obtain ⟨_, _, b2, off2, c2, G2, O2, C2, rfl, hg2⟩ := grid_of hv hs
    exact same_grid w h2 hg hg2
theorem powT_or (x : Int) : powT x = [] ∨ sqB (powT x) = true := by
  by_cases h : 0 ≤ x ∧ x ≤ 4
  · obtain ⟨n, rfl⟩ : ∃ n : Nat, x = n := ⟨x.toNat, by omega⟩
    rw [powT_yes (by omega)]
    exact .inr (sq_tabOf (pow_small (by omega)).1 (pow_small (by omega)).2)
  · exact .inl (powT_no h)
theorem chT_or (x : Int) : chT x = [] ∨ sqB (chT x) = true := by
  by_cases h : 1 ≤ x ∧ x ≤ 16
  · obtain ⟨n, rfl⟩ : ∃ n : Nat, x = n := ⟨x.toNat, by omega⟩
    rw [chT_yes (by omega) (by omega)]
    exact .inr (sq_tabOf (by omega) (by omega))
  · exact .inl (chT_no h)

theorem kn1 : latB (tabOf 4 poZ) = true := by decide +kernel
theorem kn2 : joinZ (tabOf 4 poZ) 1 2 = 3 := by decide +kernel
theorem kn3 : meetZ (tabOf 4 poZ) 1 2 = 0 := by decide +kernel
theorem kn4 : botT (tabOf 4 poZ) = 0 := by decide +kernel
theorem kn5 : topT (tabOf 4 poZ) = 3 := by decide +kernel
theorem kn6 : flowsT (tabOf 4 poZ) 1 3 = true := by decide +kernel
theorem kn7 : flowsT (tabOf 4 poZ) 1 2 = false := by decide +kernel
theorem kn8 : joinZ (tabOf 4 poZ) 1 9 = -1 := by decide +kernel
theorem kn9 : (nats (belowT (tabOf 4 poZ) 1)).length = 2 := by decide +kernel
theorem kn10 : latB [] = false := by decide +kernel
theorem kn11 : powT 2 = tabOf 4 poZ := rfl
theorem kn12 : powT 5 = [] := rfl
theorem kn13 : (chT 3).length = 3 := rfl
theorem kn14 : (tabOf 4 poZ).length = 4 := rfl
theorem NewMade.yes {w w' : World} {T : List (List Bool)} {e : Ending} (h : NewMade w T e w') (hl : latB T = true) : ∃ g, e = .returned (.tuple #[.pointer (some ⟨g, 0, none⟩), .int .i64 0]) ∧ LatV w' w.heap.size w'.heap.size g T ∧ Below w.heap.size w w' := by
  obtain ⟨hb, ⟨_, g, he, h⟩ | ⟨hno, _⟩⟩ := h
  · exact ⟨g, he, h, hb⟩
  · rw [hl] at hno; cases hno
theorem NewMade.no {w w' : World} {T : List (List Bool)} {e : Ending} (h : NewMade w T e w') (hl : latB T = false) : e = .returned (.tuple #[.pointer none, .int .i64 23]) ∧ Below w.heap.size w w' := by
  obtain ⟨hb, ⟨hno, _⟩ | ⟨_, he⟩⟩ := h
  · rw [hl] at hno; cases hno
  · exact ⟨he, hb⟩
theorem TabV.shape {w : World} {B : Nat} {v : Value} {T : List (List Bool)} (h : TabV w B v T) : ∃ A c, v = .slice A T.length c := by
  obtain ⟨A, c, rs, e, hT, _⟩ := h
  exact ⟨A, c, by rw [e, ← hT]; simp [rowsOf]⟩
theorem IntsV.shape {w : World} {B : Nat} {v : Value} {l : List Int} (h : IntsV w B v l) : ∃ A c, v = .slice A l.length c := by
  obtain ⟨A, c, e, _⟩ := h
  exact ⟨A, c, e⟩

set_option maxHeartbeats 4000000 in
theorem known_any (w : World) : Calls Try.prog 8 #[] w fun e w' => e = .returned (.bool true) ∧ Below w.heap.size w w' := by
  go_enter Try.func8, Try.ntmps8
  go_wp2_with fail
  refine (powers_any 2 w).mono ?_
  rw [kn11]
  rintro e w1 ⟨v, rfl, ht, hb⟩
  have B1 := Lib.hid hb; clear hb
  have HT := Lib.hid ht; clear ht
  go_wp2_with fail
  refine (new_any w1 HT.out).mono ?_
  rintro e w2 hm
  obtain ⟨g, rfl, hl, hb⟩ := hm.yes kn1
  clear hm
  have B2 := Lib.hid (nextB B1.out hb); clear hb
  have HL := Lib.hid hl; clear hl
  go_wp2_with fail
  refine (new_any w2 (tab_nil w2 _)).mono ?_
  rintro e w3 hm
  obtain ⟨rfl, hb⟩ := hm.no kn10
  clear hm
  have B3 := Lib.hid (nextB B2.out hb)
  have HL3 := Lib.hid (HL.out.later hb); clear hb
  have Q1 := Lib.hid (len_any w3 HL3.out)
  have Q2 := Lib.hid (join_m 1 2 w3 HL3.out)
  have Q3 := Lib.hid (meet_m 1 2 w3 HL3.out)
  have Q4 := Lib.hid (bottom_m w3 HL3.out)
  have Q5 := Lib.hid (top_m w3 HL3.out)
  have Q6 := Lib.hid (flows_m 1 3 w3 HL3.out)
  have Q7 := Lib.hid (flows_m 1 2 w3 HL3.out)
  have Q8 := Lib.hid (join_m 1 9 w3 HL3.out)
  rw [kn14] at Q1
  rw [kn2] at Q2
  rw [kn3] at Q3
  rw [kn4] at Q4
  rw [kn5] at Q5
  rw [kn6] at Q6
  rw [kn7] at Q7
  rw [kn8] at Q8
  go_wp2_with fail
  refine Q1.out.mono ?_
  rintro e w' ⟨rfl, rfl⟩
  go_wp2_with fail
  refine Q2.out.mono ?_
  rintro e w' ⟨rfl, rfl⟩
  go_wp2_with fail
  refine Q3.out.mono ?_
  rintro e w' ⟨rfl, rfl⟩
  go_wp2_with fail
  refine Q4.out.mono ?_
  rintro e w' ⟨rfl, rfl⟩
  go_wp2_with fail
  refine Q5.out.mono ?_
  rintro e w' ⟨rfl, rfl⟩
  go_wp2_with fail
  refine Q6.out.mono ?_
  rintro e w' ⟨rfl, rfl⟩
  go_wp2_with fail
  refine Q7.out.mono ?_
  rintro e w' ⟨rfl, rfl⟩
  go_wp2_with fail
  refine Q8.out.mono ?_
  rintro e w' ⟨rfl, rfl⟩
  go_wp2_with fail
  refine (below_m 1 w3 HL3.out).mono ?_
  rintro e w4 ⟨v4, rfl, hv, hb⟩
  obtain ⟨A4, c4, rfl⟩ := hv.shape
  rw [kn9]
  clear hv
  have B4 := Lib.hid (nextB B3.out hb); clear hb
  go_wp2_with fail
  refine (chains_any 3 w4).mono ?_
  rintro e w5 ⟨v5, rfl, ht, hb⟩
  obtain ⟨A5, c5, rfl⟩ := ht.shape
  rw [kn13]
  clear ht
  have B5 := Lib.hid (nextB B4.out hb); clear hb
  go_wp2_with fail
  refine (powers_any 5 w5).mono ?_
  rw [kn12]
  rintro e w6 ⟨v6, rfl, ht, hb⟩
  obtain ⟨A6, c6, rfl⟩ := ht.shape
  rw [List.length_nil]
  clear ht
  have B6 := Lib.hid (nextB B5.out hb); clear hb
  go_wp2_with fail
  go_ret
  exact ⟨rfl, B6.out⟩

end Go.Proofs.Ytidjohhnggpibaa
