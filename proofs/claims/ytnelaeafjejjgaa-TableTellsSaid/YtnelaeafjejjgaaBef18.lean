/- The rounds before a round, and between two: by package table and by the reference. -/
import Derived.Test.YtnelaeafjejjgaaTab18
import Derived.Outline
namespace Go.Proofs.Ytnelaeafjejjgaa
set_option maxRecDepth 100000
open Go.RowKit

/-- A slice that holds l, with what is behind it. -/
def CapV (w : World) (B : Nat) (v : Value) (l : List Int) : Prop := ∃ A c, v = .slice A l.length c ∧ l.length ≤ c ∧ Lies w B A (i64s l)
theorem CapV.ints {w : World} {B : Nat} {v : Value} {l : List Int} (h : CapV w B v l) : IntsV w B v l := by
  obtain ⟨A, c, e, _, hl⟩ := h; exact ⟨A, c, e, hl⟩
theorem CapV.below {w w' : World} {B : Nat} {v : Value} {l : List Int} (h : CapV w B v l) (hb : Below B w w') : CapV w' B v l := by
  obtain ⟨A, c, e, hn, h⟩ := h; exact ⟨A, c, e, hn, h.below hb⟩
theorem CapV.more {w : World} {B B' : Nat} {v : Value} {l : List Int} (h : CapV w B v l) (hb : B ≤ B') : CapV w B' v l := by
  obtain ⟨A, c, e, hn, h⟩ := h; exact ⟨A, c, e, hn, h.more hb⟩
theorem take_cnt (l : List Int) (c : Int) (k : Nat) (h : k ≤ l.length) : cntL (l.take k) c (l.take k).length = cntL l c k := by
  unfold cntL
  rw [List.take_length]
theorem lies_take {w : World} {B : Nat} {A : Option Addr} {l : List Int} (h : Lies w B A (i64s l)) (k : Nat) : Lies w B A (i64s (l.take k)) := fun hn => by
  obtain ⟨b, off, e, hb, hc⟩ := h (by simp [i64s] at hn ⊢; omega)
  refine ⟨b, off, e, hb, fun j u hu => hc j u ?_⟩
  unfold i64s at hu ⊢
  rw [List.map_take, List.getElem?_take] at hu
  split at hu
  · exact hu
  · cases hu

set_option maxHeartbeats 1000000 in
theorem before_any {B : Nat} {v : Value} {l : List Int} (c r : Int) (R : Nat) (w : World) (h : CapV w B v l) (hp : 0 < l.length) (hm : l.length ≤ 1000) (hr : Rnd r R) (hR : R ≤ 9223372036854775807) :
    Calls Try.prog 48 #[v, .int .i64 c, .int .i64 r] w fun e w' => e = .returned (.int .i64 (cntR l c R : Nat)) ∧ Drw w w' := by
  have HD := Lib.hid (divide_any r R w h.ints hp hm hr hR)
  obtain ⟨A, cp, rfl, hcp, hl⟩ := h
  have HL := Lib.hid hl; clear hl
  have hlt : R % l.length < l.length := Nat.mod_lt _ hp
  have HC := Lib.hid (cntR_div l c R hp)
  have HLE := Lib.hid (cntR_le l c R)
  have HC1 := Lib.hid (fun (w1 : World) (hb : Below B w w1) => (count_any (B := B) (v := .slice A l.length cp) (l := l) c w1 ⟨A, cp, rfl, HL.out.below hb⟩ hm).mono fun _ _ ⟨a, b⟩ => (⟨a, b.symm⟩ : _ ∧ _ = w1))
  have htl : (l.take (R % l.length)).length = R % l.length := by rw [List.length_take]; omega
  have HC2 := Lib.hid (fun (w1 : World) (hb : Below B w w1) => (count_any (B := B) (v := .slice A (R % l.length) cp) (l := l.take (R % l.length)) c w1 ⟨A, cp, by rw [htl], (lies_take HL.out _).below hb⟩ (by omega)).mono fun _ _ ⟨a, b⟩ => (⟨a, b.symm⟩ : _ ∧ _ = w1))
  rw [take_cnt l c _ (Nat.le_of_lt hlt)] at HC2
  clear htl HL
  obtain ⟨x, hx⟩ : ∃ x, cntL l c l.length = x := ⟨_, rfl⟩
  obtain ⟨y, hy⟩ : ∃ y, cntL l c (R % l.length) = y := ⟨_, rfl⟩
  obtain ⟨z, hz⟩ : ∃ z, cntR l c R = z := ⟨_, rfl⟩
  obtain ⟨q, hq⟩ : ∃ q, R / l.length = q := ⟨_, rfl⟩
  obtain ⟨s, hs⟩ : ∃ s, R % l.length = s := ⟨_, rfl⟩
  rw [hx, hy, hz, hq] at HC; rw [hx] at HC1; rw [hy, hs] at HC2; rw [hz] at HLE ⊢; rw [hq, hs] at HD; rw [hs] at hlt
  clear hx hy hz hq hs hr
  generalize l.length = n at *
  have k1 : IntKind.i64.wrap ((q : Int) * x) = ((q * x : Nat) : Int) := by
    rw [← Int.natCast_mul]; exact IntWalk.i64_in _ (by have := HC.out; have := HLE.out; omega)
  have k2 : IntKind.i64.wrap (((q * x : Nat) : Int) + y) = (z : Int) := by
    rw [← HC.out, ← Int.natCast_add]; exact IntWalk.i64_in _ (by have := HC.out; have := HLE.out; omega)
  have HV : Hid (wrap64 ((q : Int) * x + y) = (z : Int)) := Lib.hid (by
    have h1 := HC.out; have h2 := HLE.out
    rw [← Int.natCast_mul, ← Int.natCast_add, h1]; unfold wrap64; omega)
  have HR := Lib.hid hR; clear hR
  have i1 : (0 : Int) ≤ (s : Int) ∧ (s : Int) ≤ cp := by omega
  go_enter Try.func48, Try.ntmps48
  go_wp2_with fail
  refine HD.out.mono ?_
  rintro e w' ⟨rfl, m, rfl⟩
  have HB := Lib.hid (show Below B w (w.drewN m) from below_drewN (Below.refl _ _) m)
  obtain ⟨w1, hw1⟩ : ∃ w1, w1 = w.drewN m := ⟨_, rfl⟩
  have HW := Lib.hid hw1
  rw [← hw1] at HB ⊢
  clear hw1
  go_wp2_with fail
  go_quiet (first | (go_at_call 50; with_reducible refine Calls.quiet_of_same (HC1.out _ (below_drewN HB.out _))) | (go_at_call 50; with_reducible refine Calls.quiet_of_same (HC2.out _ (below_drewN HB.out _))) | fail)
  go_wp2_with fail
  go_ret
  exact ⟨by show Ending.returned (.int .i64 (wrap64 ((q : Int) * x + y))) = _; rw [HV.out], ⟨_, by rw [HW.out, World.drewN_drewN]⟩⟩

/-- The number of rounds between two, by the program. -/
theorem slots_val (l : List Int) (c : Int) (F T : Nat) : (if (cntR l c T : Int) - (cntR l c F : Int) > 0 then (cntR l c T : Int) - (cntR l c F : Int) else 0) = ((cntR l c T - cntR l c F : Nat) : Int) := by
  split <;> omega

set_option maxHeartbeats 1000000 in
theorem slots18_any {B : Nat} {v : Value} {l : List Int} (c f t : Int) (F T : Nat) (w : World) (h : CapV w B v l) (hp : 0 < l.length) (hm : l.length ≤ 1000) (hf : Rnd f F) (hF : F ≤ 1000000000000) (ht : Rnd t T) (hT : T ≤ 1000000000000) :
    Calls Try.prog 41 #[v, .int .i64 c, .int .i64 f, .int .i64 t] w fun e w' => e = .returned (.int .i64 (cntR l c T - cntR l c F : Nat)) ∧ Drw w w' := by
  have HB1 := Lib.hid (before_any c t T w h hp hm ht (by omega))
  have HB2 := Lib.hid (fun n => before_any c f F (w.drewN n) (h.below (below_drewN (Below.refl _ _) n)) hp hm hf (by omega))
  have HV := Lib.hid (slots_val l c F T)
  have h1 := cntR_le l c F
  have h2 := cntR_le l c T
  obtain ⟨A, cp, rfl, hcp, hl⟩ := h
  clear hl
  obtain ⟨x, hx⟩ : ∃ x, cntR l c T = x := ⟨_, rfl⟩
  obtain ⟨y, hy⟩ : ∃ y, cntR l c F = y := ⟨_, rfl⟩
  rw [hx] at HB1 HV h2 ⊢; rw [hy] at HB2 HV h1 ⊢
  clear hx hy hf ht
  generalize l.length = n at *
  have z : ((n : Int) == 0) = false := by simp; omega
  have hx1 : x ≤ 1000000000000 := by omega
  have hy1 : y ≤ 1000000000000 := by omega
  clear h1 h2
  go_enter Try.func41, Try.ntmps41
  go_wp2_with fail
  refine HB1.out.mono ?_
  rintro e w' ⟨rfl, m, rfl⟩
  go_wp2_with fail
  refine (HB2.out m).mono ?_
  rintro e w' ⟨rfl, m2, rfl⟩
  by_cases hxy : (0 : Int) < (x : Int) - y
  · have e1 : ((x : Int) - y) = ((x - y : Nat) : Int) := by omega
    have E1 := Lib.hid e1; clear e1
    go_wp2_with fail
    go_ret
    exact ⟨by show Ending.returned (.int .i64 ((x : Int) - y)) = _; rw [E1.out], ⟨_, rfl⟩⟩
  · have E1 := Lib.hid (show ((x - y : Nat) : Int) = 0 by omega)
    go_wp2_with fail
    go_ret
    exact ⟨by rw [E1.out]; rfl, ⟨_, rfl⟩⟩

set_option maxHeartbeats 1000000 in
theorem slots18_nil {B : Nat} {v : Value} (c f t : Int) (w : World) (h : IntsV w B v []) :
    Calls Try.prog 41 #[v, .int .i64 c, .int .i64 f, .int .i64 t] w fun e w' => e = .returned (.int .i64 0) ∧ Drw w w' := by
  obtain ⟨A, cp, rfl, hl⟩ := h
  clear hl
  go_enter Try.func41, Try.ntmps41
  go_wp2_with fail
  go_ret
  exact ⟨rfl, Drw.refl w⟩

set_option maxHeartbeats 1000000 in
/-- The first round from R on that is c's, by the program. -/
theorem next18_any {B : Nat} {v : Value} {l : List Int} (c r : Int) (R : Nat) (w : World) (h : IntsV w B v l) (hm : l.length ≤ 1000) (hr : Rnd r R) (hR : R ≤ 1000000000000) :
    Calls Try.prog 39 #[v, .int .i64 c, .int .i64 r] w fun e w' => e = .returned (.int .i64 (nextN l c R)) ∧ Drw w w' := by
  have HA := Lib.hid (fun (k : Nat) (hk : k < l.length) n => at18_any ((R : Int) + k) (R + k) (w.drewN n) (h.below (below_drewN (Below.refl _ _) n)) (by omega) hm (.inr ⟨by omega, by omega⟩) (by omega))
  have HA0 := Lib.hid (fun (k : Nat) (hk : k < l.length) n => at18_any (k : Int) (0 + k) (w.drewN n) (h.below (below_drewN (Below.refl _ _) n)) (by omega) hm (.inr ⟨by omega, by omega⟩) (by omega))
  have HY := Lib.hid (fun (k : Nat) (hk : k < l.length) (hp : atN l (R + k) = c) (h : ∀ i, i < k → atN l (R + i) ≠ c) => nextN_yes hk hp h)
  have HN := Lib.hid (fun (h : ∀ i, i < l.length → atN l (R + i) ≠ c) => nextN_no h)
  obtain ⟨A, cp, rfl, hl⟩ := h
  clear hl
  obtain ⟨n, hn⟩ : ∃ n, l.length = n := ⟨_, rfl⟩
  rw [hn] at HA HA0 HY HN hm ⊢
  clear hn
  rcases hr with ⟨h0, rfl⟩ | ⟨h0, rfl⟩
  · have h1 : ¬ (0 : Int) ≤ r := by omega
    go_enter Try.func39, Try.ntmps39
    go_wp2_with fail
    go_loopw [12] (fun i wr => ∃ k : Nat, k ≤ n ∧ i = .int .i64 k ∧ (∀ j, j < k → atN l (0 + j) ≠ c) ∧ Drw w wr) (fun i _ => n - (intOf i).toNat)
    case atStart => exact ⟨0, Nat.zero_le _, rfl, fun j hj => by omega, Drw.refl w⟩
    case round =>
      obtain ⟨k, hk, rfl, hj, m, hw⟩ := hrel
      have HJ := Lib.hid hj; have HW := Lib.hid hw; clear hj
      subst hw
      by_cases hkn : k < n
      · have HAK := Lib.hid (HA0.out k hkn m)
        obtain ⟨x, hx⟩ : ∃ x, atN l (0 + k) = x := ⟨_, rfl⟩
        have HX := Lib.hid hx
        rw [hx] at HAK
        clear hx
        by_cases hxc : x = c
        · have e1 : (x == c) = true := by simpa using hxc
          have HYY := Lib.hid (HY.out k hkn (HX.out.trans hxc) HJ.out)
          clear hxc
          have e2 : ((k : Nat) : Int) = ((0 + k : Nat) : Int) := by omega
          have E2 := Lib.hid e2; clear e2
          go_wp2_with fail
          refine HAK.out.mono ?_
          rintro e w' ⟨rfl, m2, rfl⟩
          go_wp2_with fail
          go_ret
          exact ⟨by rw [HYY.out, ← E2.out]; rfl, ⟨_, rfl⟩⟩
        · have e1 : (x == c) = false := by simpa using hxc
          have HYY : Hid (∀ j, j < k + 1 → atN l (0 + j) ≠ c) := Lib.hid (fun j hj => by
            rcases Nat.lt_or_ge j k with h | h
            · exact HJ.out j h
            · obtain rfl : j = k := by omega
              rw [HX.out]; exact hxc)
          clear hxc
          go_wp2_with fail
          refine HAK.out.mono ?_
          rintro e w' ⟨rfl, m2, rfl⟩
          go_wp2_with fail
          go_roundw
          case rel => exact ⟨k + 1, by omega, by go_num, HYY.out, ⟨_, rfl⟩⟩
          case measure => simp [intOf]; omega
      · obtain rfl : k = n := by omega
        have HNN := Lib.hid (HN.out HJ.out)
        go_wp2_with fail
        go_ret
        exact ⟨by rw [HNN.out]; rfl, ⟨m, rfl⟩⟩
  · have h1 : ¬ (R : Int) < 0 := by omega
    go_enter Try.func39, Try.ntmps39
    go_wp2_with fail
    go_loopw [12] (fun i wr => ∃ k : Nat, k ≤ n ∧ i = .int .i64 k ∧ (∀ j, j < k → atN l (R + j) ≠ c) ∧ Drw w wr) (fun i _ => n - (intOf i).toNat)
    case atStart => exact ⟨0, Nat.zero_le _, rfl, fun j hj => by omega, Drw.refl w⟩
    case round =>
      obtain ⟨k, hk, rfl, hj, m, hw⟩ := hrel
      have HJ := Lib.hid hj; have HW := Lib.hid hw; clear hj
      subst hw
      by_cases hkn : k < n
      · have HAK := Lib.hid (HA.out k hkn m)
        obtain ⟨x, hx⟩ : ∃ x, atN l (R + k) = x := ⟨_, rfl⟩
        have HX := Lib.hid hx
        rw [hx] at HAK
        clear hx
        by_cases hxc : x = c
        · have e1 : (x == c) = true := by simpa using hxc
          have HYY := Lib.hid (HY.out k hkn (HX.out.trans hxc) HJ.out)
          clear hxc
          have e2 : ((R : Int) + k) = ((R + k : Nat) : Int) := by omega
          have E2 := Lib.hid e2; clear e2
          go_wp2_with fail
          refine HAK.out.mono ?_
          rintro e w' ⟨rfl, m2, rfl⟩
          go_wp2_with fail
          go_ret
          exact ⟨by rw [HYY.out, ← E2.out]; rfl, ⟨_, rfl⟩⟩
        · have e1 : (x == c) = false := by simpa using hxc
          have HYY : Hid (∀ j, j < k + 1 → atN l (R + j) ≠ c) := Lib.hid (fun j hj => by
            rcases Nat.lt_or_ge j k with h | h
            · exact HJ.out j h
            · obtain rfl : j = k := by omega
              rw [HX.out]; exact hxc)
          clear hxc
          go_wp2_with fail
          refine HAK.out.mono ?_
          rintro e w' ⟨rfl, m2, rfl⟩
          go_wp2_with fail
          go_roundw
          case rel => exact ⟨k + 1, by omega, by go_num, HYY.out, ⟨_, rfl⟩⟩
          case measure => simp [intOf]; omega
      · obtain rfl : k = n := by omega
        have HNN := Lib.hid (HN.out HJ.out)
        go_wp2_with fail
        go_ret
        exact ⟨by rw [HNN.out]; rfl, ⟨m, rfl⟩⟩

end Go.Proofs.Ytnelaeafjejjgaa
