/- Package table and the reference's tables, for any lists: walks. -/
import Derived.Test.YtnelaeafjejjgaaTm18
import Derived.Test.YtnelaeafjejjgaaNums
import Derived.Deep.QuietTactic
import Derived.BigQuiet
import Derived.IntWalk
namespace Go.Proofs.Ytnelaeafjejjgaa
set_option maxRecDepth 100000
open Go.RowKit

/-- Nothing but draws. -/
def Drw (w w' : World) : Prop := ∃ n, w' = w.drewN n
theorem Drw.refl (w : World) : Drw w w := ⟨0, rfl⟩
theorem Drw.below {w w' : World} (h : Drw w w') (B : Nat) : Below B w w' := by
  obtain ⟨n, rfl⟩ := h; exact below_drewN (Below.refl _ _) n

set_option maxHeartbeats 1000000 in
theorem count_any {B : Nat} {v : Value} {l : List Int} (c : Int) (w : World) (h : IntsV w B v l) (hm : l.length ≤ 1000) :
    Calls Try.prog 50 #[v, .int .i64 c] w fun e w' => e = .returned (.int .i64 (cntL l c l.length : Nat)) ∧ w = w' := by
  obtain ⟨A, cp, rfl, hl⟩ := h
  have HL := Lib.hid hl; clear hl
  obtain ⟨n, hn⟩ : ∃ n, l.length = n := ⟨_, rfl⟩
  have HN := Lib.hid hn
  rw [hn] at hm ⊢
  clear hn
  go_enter Try.func50, Try.ntmps50
  go_wp2_with fail
  go_loop [5, 10] (fun s i => ∃ k : Nat, k ≤ n ∧ i = .int .i64 k ∧ s = .int .i64 (cntL l c k : Nat)) (fun _ i => n - (intOf i).toNat)
  case atStart => exact ⟨0, Nat.zero_le _, rfl, rfl⟩
  case round =>
    obtain ⟨k, hk, rfl, rfl⟩ := hrel
    by_cases hkn : k < n
    · have hkl : k < l.length := by rw [HN.out]; exact hkn
      obtain ⟨b, off, rfl, hb, c1⟩ := lie_int HL.out hkl
      have HS := Lib.hid (cntL_step (c := c) hkl)
      have hle := cntL_le l c k
      obtain ⟨x, hx⟩ : ∃ x, l[k] = x := ⟨_, rfl⟩
      rw [hx] at c1 HS
      obtain ⟨q, hq⟩ : ∃ q, cntL l c k = q := ⟨_, rfl⟩
      rw [hq] at HS hle ⊢
      clear hx hq
      by_cases hxc : (x == c) = true
      · have HS2 : Hid (cntL l c (k + 1) = q + 1) := Lib.hid (by rw [HS.out, hxc]; rfl)
        clear HS
        go_wp2_with fail
        go_round
        case rel => exact ⟨k + 1, by omega, by go_num, by rw [HS2.out]; go_num⟩
        case measure => simp [intOf]; omega
      · have hxc' : (x == c) = false := by simpa using hxc
        have HS2 : Hid (cntL l c (k + 1) = q) := Lib.hid (by rw [HS.out, hxc']; rfl)
        clear HS hxc
        go_wp2_with fail
        go_round
        case rel => exact ⟨k + 1, by omega, by go_num, by rw [HS2.out]⟩
        case measure => simp [intOf]; omega
    · obtain rfl : k = n := by omega
      go_wp2_with fail
      go_ret
      exact ⟨rfl, rfl⟩

theorem tdiv_nat (R n : Nat) : Int.tdiv (R : Int) (n : Int) = ((R / n : Nat) : Int) := by
  rw [Int.tdiv_eq_ediv_of_nonneg (by omega)]; rfl
theorem tmod_nat (R n : Nat) : Int.tmod (R : Int) (n : Int) = ((R % n : Nat) : Int) := by
  rw [Int.tmod_eq_emod_of_nonneg (by omega)]; rfl
/-- A round from 0 on: a negative one counts as 0. -/
def Rnd (r : Int) (R : Nat) : Prop := (r < 0 ∧ R = 0) ∨ (0 ≤ r ∧ r = R)
theorem rnd_of (r : Int) : Rnd r (max r 0).toNat := by unfold Rnd; omega

set_option maxHeartbeats 1000000 in
theorem divide_any {B : Nat} {v : Value} {l : List Int} (r : Int) (R : Nat) (w : World) (h : IntsV w B v l) (hp : 0 < l.length) (hm : l.length ≤ 1000) (hr : Rnd r R) (hR : R ≤ 9223372036854775807) :
    Calls Try.prog 47 #[v, .int .i64 r] w fun e w' => e = .returned (.tuple #[.int .i64 (R / l.length : Nat), .int .i64 (R % l.length : Nat)]) ∧ Drw w w' := by
  obtain ⟨A, cp, rfl, hl⟩ := h
  clear hl
  generalize l.length = n at *
  have z : ¬ (n : Int) = 0 := by omega
  rcases hr with ⟨h0, rfl⟩ | ⟨h0, rfl⟩
  · rw [Nat.zero_div, Nat.zero_mod]
    have h1 : ¬ (0 : Int) ≤ r := by omega
    go_enter Try.func47, Try.ntmps47
    go_wp2_with fail
    go_quiet (fail)
    go_wp2_with fail
    go_ret2
    exact ⟨rfl, ⟨_, rfl⟩⟩
  · have d1 := tdiv_nat R n
    have d2 := tmod_nat R n
    have HQ : R / n ≤ R := Nat.div_le_self _ _
    obtain ⟨q, hq⟩ : ∃ q, R / n = q := ⟨_, rfl⟩
    obtain ⟨s, hs⟩ : ∃ s, R % n = s := ⟨_, rfl⟩
    rw [hq] at d1 HQ ⊢; rw [hs] at d2 ⊢
    have d3 : IntKind.i64.wrap (q : Int) = q := IntWalk.i64_in _ (by omega)
    clear hq hs
    have h1 : ¬ (R : Int) < 0 := by omega
    go_enter Try.func47, Try.ntmps47
    go_wp2_with fail
    go_quiet (fail)
    go_wp2_with fail
    go_ret2
    exact ⟨rfl, ⟨_, rfl⟩⟩

set_option maxHeartbeats 1000000 in
theorem at18_any {B : Nat} {v : Value} {l : List Int} (r : Int) (R : Nat) (w : World) (h : IntsV w B v l) (hp : 0 < l.length) (hm : l.length ≤ 1000) (hr : Rnd r R) (hR : R ≤ 9223372036854775807) :
    Calls Try.prog 37 #[v, .int .i64 r] w fun e w' => e = .returned (.int .i64 (atN l R)) ∧ Drw w w' := by
  have HD := Lib.hid (divide_any r R w h hp hm hr hR)
  obtain ⟨A, cp, rfl, hl⟩ := h
  have HL := Lib.hid hl; clear hl
  have hlt : R % l.length < l.length := Nat.mod_lt _ hp
  obtain ⟨b, off, rfl, hb, c1⟩ := lie_int HL.out hlt
  have ha : atN l R = l[R % l.length] := by unfold atN; simp [List.getD, hlt]
  rw [ha]
  obtain ⟨x, hx⟩ : ∃ x, l[R % l.length] = x := ⟨_, rfl⟩
  rw [hx] at c1 ⊢
  clear ha hx HL
  obtain ⟨q, hq⟩ : ∃ q, R / l.length = q := ⟨_, rfl⟩
  obtain ⟨s, hs⟩ : ∃ s, R % l.length = s := ⟨_, rfl⟩
  rw [hq, hs] at HD; rw [hs] at hlt c1
  clear hq hs hr hR
  generalize l.length = n at *
  have z : ((n : Int) == 0) = false := by simp; omega
  go_enter Try.func37, Try.ntmps37
  go_wp2_with fail
  refine HD.out.mono ?_
  rintro e w' ⟨rfl, m, rfl⟩
  go_wp2_with fail
  go_ret
  exact ⟨rfl, ⟨m, rfl⟩⟩

set_option maxHeartbeats 1000000 in
theorem at18_nil {B : Nat} {v : Value} (r : Int) (w : World) (h : IntsV w B v []) :
    Calls Try.prog 37 #[v, .int .i64 r] w fun e w' => e = .returned (.int .i64 (-1)) ∧ Drw w w' := by
  obtain ⟨A, cp, rfl, hl⟩ := h
  clear hl
  go_enter Try.func37, Try.ntmps37
  go_wp2_with fail
  go_ret
  exact ⟨rfl, Drw.refl w⟩

set_option maxHeartbeats 1000000 in
theorem refAt18_any {B : Nat} {v : Value} {l : List Int} (r : Int) (R : Nat) (w : World) (h : IntsV w B v l) (hp : 0 < l.length) (hm : l.length ≤ 1000) (hr : Rnd r R) (hR : R ≤ 9223372036854775807) :
    Calls Try.prog 38 #[v, .int .i64 r] w fun e w' => e = .returned (.int .i64 (atN l R)) ∧ Drw w w' := by
  obtain ⟨A, cp, rfl, hl⟩ := h
  have HL := Lib.hid hl; clear hl
  have hlt : R % l.length < l.length := Nat.mod_lt _ hp
  obtain ⟨b, off, rfl, hb, c1⟩ := lie_int HL.out hlt
  have ha : atN l R = l[R % l.length] := by unfold atN; simp [List.getD, hlt]
  rw [ha]
  obtain ⟨x, hx⟩ : ∃ x, l[R % l.length] = x := ⟨_, rfl⟩
  rw [hx] at c1 ⊢
  clear ha hx HL
  have d2 : (R : Int) % (l.length : Int) = ((R % l.length : Nat) : Int) := by omega
  obtain ⟨s, hs⟩ : ∃ s, R % l.length = s := ⟨_, rfl⟩
  rw [hs] at hlt c1 d2
  generalize l.length = n at *
  have z : ((n : Int) == 0) = false := by simp; omega
  have z2 : ¬ (n : Int) = 0 := by omega
  rcases hr with ⟨h0, rfl⟩ | ⟨h0, rfl⟩
  · have h1 : ¬ (0 : Int) ≤ r := by omega
    obtain rfl : s = 0 := by rw [← hs]; simp
    rw [Nat.add_zero] at c1
    clear hs d2
    go_enter Try.func38, Try.ntmps38
    go_wp2_with fail
    go_ret
    exact ⟨rfl, Drw.refl w⟩
  · have h1 : ¬ (R : Int) < 0 := by omega
    clear hs
    go_enter Try.func38, Try.ntmps38
    go_wp2_with fail
    go_ret
    exact ⟨rfl, Drw.refl w⟩

set_option maxHeartbeats 1000000 in
theorem refAt18_nil {B : Nat} {v : Value} (r : Int) (w : World) (h : IntsV w B v []) :
    Calls Try.prog 38 #[v, .int .i64 r] w fun e w' => e = .returned (.int .i64 (-1)) ∧ Drw w w' := by
  obtain ⟨A, cp, rfl, hl⟩ := h
  clear hl
  go_enter Try.func38, Try.ntmps38
  go_wp2_with fail
  go_ret
  exact ⟨rfl, Drw.refl w⟩

end Go.Proofs.Ytnelaeafjejjgaa
