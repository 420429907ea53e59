/- The reference's next round and its number of rounds between two. -/
import Derived.Test.YtnelaeafjejjgaaBef18
namespace Go.Proofs.Ytnelaeafjejjgaa
set_option maxRecDepth 100000
open Go.RowKit

theorem Rnd.ite {r : Int} {R : Nat} (h : Rnd r R) : (if r < 0 then 0 else r) = (R : Int) := by
  rcases h with ⟨h, rfl⟩ | ⟨h, rfl⟩
  · rw [if_pos h]; rfl
  · rw [if_neg (by omega)]

set_option maxHeartbeats 1000000 in
theorem refNext18_any {B : Nat} {v : Value} {l : List Int} (c r : Int) (R : Nat) (w : World) (h : IntsV w B v l) (hm : l.length ≤ 1000) (hr : Rnd r R) (hR : R ≤ 1000000000000) :
    Calls Try.prog 40 #[v, .int .i64 c, .int .i64 r] w fun e w' => e = .returned (.int .i64 (nextN l c R)) ∧ Drw w w' := by
  have HA := Lib.hid (fun (k : Nat) (hk : k < l.length) n => refAt18_any ((R : Int) + k) (R + k) (w.drewN n) (h.below (below_drewN (Below.refl _ _) n)) (by omega) hm (.inr ⟨by omega, by omega⟩) (by omega))
  have HY := Lib.hid (fun (k : Nat) (hk : k < l.length) (hp : atN l (R + k) = c) (h : ∀ i, i < k → atN l (R + i) ≠ c) => nextN_yes hk hp h)
  have HN := Lib.hid (fun (h : ∀ i, i < l.length → atN l (R + i) ≠ c) => nextN_no h)
  obtain ⟨A, cp, rfl, hl⟩ := h
  clear hl
  obtain ⟨n, hn⟩ : ∃ n, l.length = n := ⟨_, rfl⟩
  rw [hn] at HA HY HN hm ⊢
  clear hn
  have mx := hr.ite
  clear hr
  go_enter Try.func40, Try.ntmps40
  go_wp2_with fail
  go_loopw [7] (fun i wr => ∃ k : Nat, k ≤ n ∧ i = .int .i64 k ∧ (∀ j, j < k → atN l (R + j) ≠ c) ∧ Drw w wr) (fun i _ => n - (intOf i).toNat)
  case atStart => exact ⟨0, Nat.zero_le _, rfl, fun j hj => by omega, Drw.refl w⟩
  case round =>
    obtain ⟨k, hk, rfl, hj, m, hw⟩ := hrel
    have HJ := Lib.hid hj; have HW := Lib.hid hw; clear hj
    subst hw
    by_cases hkn : k < n
    · have HAK := Lib.hid (HA.out k hkn m)
      obtain ⟨x, hx⟩ : ∃ x, atN l (R + k) = x := ⟨_, rfl⟩
      have HX := Lib.hid hx
      rw [hx] at HAK
      clear hx
      by_cases hxc : x = c
      · have e1 : (x == c) = true := by simpa using hxc
        have HYY := Lib.hid (HY.out k hkn (HX.out.trans hxc) HJ.out)
        clear hxc
        have e2 : ((R : Int) + k) = ((R + k : Nat) : Int) := by omega
        have E2 := Lib.hid e2; clear e2
        go_wp2_with fail
        refine HAK.out.mono ?_
        rintro e w' ⟨rfl, m2, rfl⟩
        go_wp2_with fail
        go_ret
        exact ⟨by rw [HYY.out, ← E2.out]; rfl, ⟨_, rfl⟩⟩
      · have e1 : (x == c) = false := by simpa using hxc
        have HYY : Hid (∀ j, j < k + 1 → atN l (R + j) ≠ c) := Lib.hid (fun j hj => by
          rcases Nat.lt_or_ge j k with h | h
          · exact HJ.out j h
          · obtain rfl : j = k := by omega
            rw [HX.out]; exact hxc)
        clear hxc
        go_wp2_with fail
        refine HAK.out.mono ?_
        rintro e w' ⟨rfl, m2, rfl⟩
        go_wp2_with fail
        go_roundw
        case rel => exact ⟨k + 1, by omega, by go_num, HYY.out, ⟨_, rfl⟩⟩
        case measure => simp [intOf]; omega
    · obtain rfl : k = n := by omega
      have HNN := Lib.hid (HN.out HJ.out)
      go_wp2_with fail
      go_ret
      exact ⟨by rw [HNN.out]; rfl, ⟨m, rfl⟩⟩

set_option maxHeartbeats 2000000 in
theorem refSlots18_any {B : Nat} {v : Value} {l : List Int} (c f t : Int) (F T : Nat) (w : World) (h : IntsV w B v l) (hp : 0 < l.length) (hm : l.length ≤ 1000) (hf : Rnd f F) (hF : F ≤ 1000000000000) (ht : Rnd t T) (hT : T ≤ 1000000000000) :
    Calls Try.prog 42 #[v, .int .i64 c, .int .i64 f, .int .i64 t] w fun e w' => e = .returned (.int .i64 (cntR l c T - cntR l c F : Nat)) ∧ Drw w w' := by
  have HA := Lib.hid (fun (k : Nat) (hk : k ≤ T) n => refAt18_any (k : Int) k (w.drewN n) (h.below (below_drewN (Below.refl _ _) n)) hp hm (.inr ⟨by omega, rfl⟩) (by omega))
  have mf := hf.ite; have mt := ht.ite
  by_cases hFT : T ≤ F
  · have HV := Lib.hid (show cntR l c T - cntR l c F = 0 by have := cntR_mono' l c hFT; omega)
    obtain ⟨A, cp, rfl, hl⟩ := h
    clear hl hf ht HA
    generalize l.length = n at *
    have z : ((n : Int) == 0) = false := by simp; omega
    have z1 : decide (T ≤ F) = true := by simpa using hFT
    go_enter Try.func42, Try.ntmps42
    go_wp2_with fail
    go_ret
    exact ⟨by rw [HV.out]; rfl, Drw.refl w⟩
  · have HREF := Lib.hid (cntR_ref l c F T (by omega))
    have HMONO := Lib.hid (fun a b (h : a ≤ b) => cntR_mono' l c (a := a) (b := b) h)
    have HLE := Lib.hid (cntR_le l c)
    have HST := Lib.hid (fun j => show cntR l c (j + 1) = cntR l c j + if atN l j == c then 1 else 0 from rfl)
    obtain ⟨A, cp, rfl, hl⟩ := h
    have HL := Lib.hid hl
    clear hl hf ht
    obtain ⟨n, hn⟩ : ∃ n, l.length = n := ⟨_, rfl⟩
    have HN := Lib.hid hn
    rw [hn] at HREF HA hp hm ⊢
    clear hn
    obtain ⟨D, hD⟩ : ∃ D, T - F = D := ⟨_, rfl⟩
    have HD := Lib.hid hD
    rw [hD] at HREF
    have d1 : (D : Int) / (n : Int) = ((D / n : Nat) : Int) := by omega
    have d2 : (D : Int) % (n : Int) = ((D % n : Nat) : Int) := by omega
    have hdl := Nat.div_le_self D n
    have hml := Nat.mod_le D n
    obtain ⟨q, hq⟩ : ∃ q, D / n = q := ⟨_, rfl⟩
    obtain ⟨s, hs⟩ : ∃ s, D % n = s := ⟨_, rfl⟩
    rw [hq] at d1 hdl; rw [hs] at d2 hml; rw [hq, hs] at HREF
    clear hq hs
    obtain ⟨U, hU⟩ : ∃ U, T - s = U := ⟨_, rfl⟩
    rw [hU] at HREF
    have e1 : (T : Int) - F = D := by omega
    have e2 : (T : Int) - s = U := by omega
    have hUT : U ≤ T := by omega
    have hFU : F ≤ U := by omega
    have z : ((n : Int) == 0) = false := by simp; omega
    have z1 : decide (T ≤ F) = false := by simpa using hFT
    have z2 : ¬ (n : Int) = 0 := by omega
    clear hFT hD hU
    go_enter Try.func42, Try.ntmps42
    go_wp2_with fail
    go_loop [10, 11] (fun s i => ∃ k : Nat, k ≤ n ∧ i = .int .i64 k ∧ s = .int .i64 (cntL l c k : Nat)) (fun _ i => n - (intOf i).toNat)
    case atStart => exact ⟨0, Nat.zero_le _, rfl, rfl⟩
    case round =>
      obtain ⟨k, hk, rfl, rfl⟩ := hrel
      have hle := cntL_le l c k
      by_cases hkn : k < n
      · have hkl : k < l.length := by rw [HN.out]; exact hkn
        obtain ⟨b, off, rfl, hb, c1⟩ := lie_int HL.out hkl
        have HS := Lib.hid (cntL_step (c := c) hkl)
        obtain ⟨x, hx⟩ : ∃ x, l[k] = x := ⟨_, rfl⟩
        rw [hx] at c1 HS
        obtain ⟨y, hy⟩ : ∃ y, cntL l c k = y := ⟨_, rfl⟩
        rw [hy] at HS hle ⊢
        clear hx hy
        by_cases hxc : (x == c) = true
        · have HS2 : Hid (cntL l c (k + 1) = y + 1) := Lib.hid (by rw [HS.out, hxc]; rfl)
          clear HS
          go_wp2_with fail
          go_round
          case rel => exact ⟨k + 1, by omega, by go_num, by rw [HS2.out]; go_num⟩
          case measure => simp [intOf]; omega
        · have hxc' : (x == c) = false := by simpa using hxc
          have HS2 : Hid (cntL l c (k + 1) = y) := Lib.hid (by rw [HS.out, hxc']; rfl)
          clear HS hxc
          go_wp2_with fail
          go_round
          case rel => exact ⟨k + 1, by omega, by go_num, by rw [HS2.out]⟩
          case measure => simp [intOf]; omega
      · obtain rfl : k = n := by omega
        obtain ⟨y, hy⟩ : ∃ y, cntL l c k = y := ⟨_, rfl⟩
        rw [hy] at HREF hle ⊢
        clear hy hkn HL
        have hqy : cntR l c U = cntR l c F + q * y := HREF.out
        have hU1 := HLE.out U
        obtain ⟨p, hpp⟩ : ∃ p, q * y = p := ⟨_, rfl⟩
        have e3 : (q : Int) * (y : Int) = (p : Int) := by rw [← hpp]; rfl
        rw [hpp] at hqy
        have HQ := Lib.hid hqy
        have hp2 : p ≤ 1000000000000 := by omega
        clear hqy hpp hU1 hle
        go_wp2_with fail
        go_loopw [9, 12] (fun s i wr => ∃ j : Nat, U ≤ j ∧ j ≤ T ∧ i = .int .i64 j ∧ s = .int .i64 (cntR l c j - cntR l c F : Nat) ∧ Drw w wr) (fun _ i _ => T - (intOf i).toNat)
        case atStart => exact ⟨U, Nat.le_refl _, hUT, rfl, by rw [HQ.out, Nat.add_sub_cancel_left], Drw.refl w⟩
        case round =>
          obtain ⟨j, hj1, hj2, rfl, rfl, m, rfl⟩ := hrel
          have HM := Lib.hid (HMONO.out F j (by omega))
          have HJ := Lib.hid (HST.out j)
          have hle2 := HLE.out j
          by_cases hjT : j < T
          · have HAJ := Lib.hid (HA.out j (by omega) m)
            obtain ⟨x, hx⟩ : ∃ x, atN l j = x := ⟨_, rfl⟩
            rw [hx] at HAJ HJ
            clear hx
            obtain ⟨y2, hy2⟩ : ∃ y2, cntR l c j - cntR l c F = y2 := ⟨_, rfl⟩
            have HY2 := Lib.hid hy2
            have hy3 : y2 ≤ 1000000000000 := by omega
            rw [hy2]
            clear hy2
            by_cases hxc : (x == c) = true
            · have HS2 : Hid (cntR l c (j + 1) - cntR l c F = y2 + 1) := Lib.hid (by
                have h1 := HJ.out; have h2 := HY2.out; have h3 := HM.out
                rw [hxc] at h1; simp at h1; omega)
              clear HJ HM hle2
              go_wp2_with fail
              refine HAJ.out.mono ?_
              rintro e w' ⟨rfl, m2, rfl⟩
              go_wp2_with fail
              go_roundw
              case rel => exact ⟨j + 1, by omega, by omega, by go_num, by rw [HS2.out]; go_num, ⟨_, rfl⟩⟩
              case measure => simp [intOf]; omega
            · have hxc' : (x == c) = false := by simpa using hxc
              have HS2 : Hid (cntR l c (j + 1) - cntR l c F = y2) := Lib.hid (by
                have h1 := HJ.out; have h2 := HY2.out; have h3 := HM.out
                rw [hxc'] at h1; simp at h1; omega)
              clear HJ HM hle2 hxc
              go_wp2_with fail
              refine HAJ.out.mono ?_
              rintro e w' ⟨rfl, m2, rfl⟩
              go_wp2_with fail
              go_roundw
              case rel => exact ⟨j + 1, by omega, by omega, by go_num, by rw [HS2.out], ⟨_, rfl⟩⟩
              case measure => simp [intOf]; omega
          · obtain rfl : j = T := by omega
            clear HJ HM hle2
            go_wp2_with fail
            go_ret
            exact ⟨rfl, ⟨m, rfl⟩⟩

set_option maxHeartbeats 1000000 in
theorem refSlots18_nil {B : Nat} {v : Value} (c f t : Int) (F T : Nat) (w : World) (h : IntsV w B v []) (hf : Rnd f F) (ht : Rnd t T) :
    Calls Try.prog 42 #[v, .int .i64 c, .int .i64 f, .int .i64 t] w fun e w' => e = .returned (.int .i64 0) ∧ Drw w w' := by
  obtain ⟨A, cp, rfl, hl⟩ := h
  have mf := hf.ite; have mt := ht.ite
  clear hl hf ht
  go_enter Try.func42, Try.ntmps42
  go_wp2_with fail
  go_ret
  exact ⟨rfl, Drw.refl w⟩

end Go.Proofs.Ytnelaeafjejjgaa
