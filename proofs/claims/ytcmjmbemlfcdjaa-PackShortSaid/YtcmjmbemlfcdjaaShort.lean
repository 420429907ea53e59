/- PackShort returns true for every input and changes nothing: an encoding has one byte for every seven bits, and every proper prefix of it is short. No condition. -/
import Derived.Test.YtcmjmbemlfcdjaaKnown
import Derived.Test.YtcmjmbemlfcdjaaBack
import Derived.Test.YtcmjmbemlfcdjaaLaw
namespace Go.Proofs.Ytcmjmbemlfcdjaa.packShort
open Go.RowKit Go.ChangeShapes Go.WideShapes Go.ChangeAt

theorem new_n (B : Nat) (A : Option Addr) (c n : Nat) (l : List Int) (w : World) (hn : l.length = n) (hm : n ≤ 140737488355328) (hB : B ≤ w.heap.size) (hl : Lies w B A (u8s l)) (hb : IsBytes l) :
    Calls Try.prog 13 #[.slice A n c] w fun e w' =>
      ∃ g, e = .returned (.pointer (some ⟨g, 0, none⟩)) ∧ w.heap.size ≤ g ∧ Rd w' g g 50 (l, 0) ∧ Below w.heap.size w w' := by
  subst hn
  exact new_any B A c l w hm hB hl hb

theorem shift_step {x j Y : Nat} (h : Y = x / 2 ^ (7 * (j + 1))) : Y / 128 = x / 2 ^ (7 * (j + 1 + 1)) := by
  rw [h, Nat.div_div_eq_div_mul, show 7 * (j + 1 + 1) = 7 * (j + 1) + 7 from by omega, Nat.pow_add]

theorem shift_bound {x j : Nat} (hx : x ≤ 18446744073709551615) (h : 0 < x / 2 ^ (7 * (j + 1))) : j ≤ 9 := by
  rcases Nat.lt_or_ge 9 j with hj | hj
  · have h3 : 2 ^ 64 ≤ 2 ^ (7 * (j + 1)) := Nat.pow_le_pow_right (by omega) (by omega)
    have := Nat.div_eq_of_lt (show x < 2 ^ (7 * (j + 1)) by omega)
    omega
  · exact hj

set_option maxHeartbeats 2000000 in
theorem walk (n k cut : Nat) (hn : n ≤ 18446744073709551615) (hk : k ≤ 255) (hcut : cut ≤ 255) (w : World) :
    Calls Try.prog 6 #[.int .u64 n, .int .u8 k, .int .u8 cut] w fun e w' => e = .returned (.bool true) ∧ Below w.heap.size w w' := by
  go_enter Try.func6, Try.ntmps6
  go_wp2_with fail
  refine (known_any w).mono ?_
  rintro e w1 ⟨rfl, B1⟩
  have s1 := B1.size
  go_wp2_with fail
  refine (edge_any n k w1 hn hk).mono ?_
  have hx := edgeN_le n k hn
  generalize edgeN n k = x at *
  rintro e w2 ⟨rfl, hb2⟩
  have B2 := B1.trans (hb2.mono s1)
  have s2 := B2.size
  go_wp2_with fail
  refine (put_any (w2.heap.size + 1) _ 1 1 [x] _ rfl (by omega) (by intro y hy; simp at hy; omega) (by simp) (lies_new w2 [.int .u64 x] 29)).mono ?_
  rintro e w3 ⟨v3, rfl, ho3, hb3⟩
  have B3 := B2.trans (((below_alloc w2 _).trans (hb3.mono (by simp))).mono s2)
  have s3 := B3.size
  rw [show encs [x] = enc x from by simp [encs]] at *
  obtain ⟨A, c, rfl, hc1, hc2, _, hl, _⟩ := Lies.of_own ho3
  have hlen := enc_length_le x (by omega)
  have HE := Lib.hid (enc_length x)
  have hpart := fun q most hq => numR_part x q most hx hq
  have HP := Lib.hid hpart; clear hpart
  have HB := Lib.hid (enc_bytes x)
  have HL := Lib.hid hl; clear hl ho3
  have HX := Lib.hid hx
  have HLL : Hid (∃ L, L = (enc x).length) := ⟨_, rfl⟩
  generalize hL : (enc x).length = L at *
  have HLN := Lib.hid hL; clear hL
  obtain ⟨hL1, hL2⟩ := hlen
  have hmax : max (L : Int) 1 = L := by omega
  have hq0 : 0 ≤ (cut : Int) % max (L : Int) 1 := Int.emod_nonneg _ (by omega)
  have hq1 : (cut : Int) % max (L : Int) 1 < L := by rw [hmax]; exact Int.emod_lt_of_pos _ (by omega)
  clear hmax
  go_wp2_with fail
  go_loop [9, 10] (fun wn y => ∃ j Y : Nat, wn = .int .i64 ((j + 1 : Nat) : Int) ∧ y = .int .u64 Y ∧ Y = x / 2 ^ (7 * (j + 1)) ∧ (j = 0 ∨ x / 2 ^ (7 * j) ≠ 0) ∧ j ≤ 10) (fun _ y => (intOf y).toNat)
  case atStart => exact ⟨0, x / 128, rfl, rfl, rfl, .inl rfl, by omega⟩
  case round =>
    obtain ⟨j, Y, rfl, rfl, hY, hj, hj9⟩ := hrel
    have HY := Lib.hid hY; clear hY
    have HJ := Lib.hid hj; clear hj
    by_cases hpos : 0 < Y
    · have hb9 := shift_bound (x := x) (j := j) HX.out (by rw [← HY.out]; exact hpos)
      go_wp2_with fail
      go_round
      case rel => exact ⟨j + 1, Y / 128, by go_num, by go_num, shift_step HY.out, .inr (by rw [← HY.out]; omega), by omega⟩
      case measure => simp [intOf]; omega
    · obtain rfl : Y = 0 := by omega
      have ht := topk_of x j HX.out HY.out.symm HJ.out
      have hjL : j + 1 = L := by have := HE.out; omega
      clear ht
      go_wp2_with fail
      generalize hq : ((cut : Int) % max (L : Int) 1).toNat = q at *
      have hqL : q < L := by omega
      have HQ := Lib.hid hq; clear hq
      have htl : ((enc x).take q).length = q := by rw [List.length_take, HLN.out]; omega
      refine (new_n w3.heap.size A c q ((enc x).take q) w3 htl (by omega) (Nat.le_refl _) (by rw [show u8s ((enc x).take q) = (u8s (enc x)).take q from List.map_take ..]; exact HL.out.take q) (fun u hu => HB.out u (List.mem_of_mem_take hu))).mono ?_
      rintro e w4 ⟨g, rfl, hg4, R4, hb4⟩
      have B4 := B3.trans (hb4.mono s3)
      have s4 := B4.size
      have G4 := Lib.hid R4; clear R4
      go_wp2_with fail
      refine (num_int g g _ 18446744073709551615 w4 (by omega) (by omega) G4.out).mono ?_
      rw [HP.out q _ hqL]
      rintro e w5 ⟨rfl, R5, g5⟩
      have B5 := B4.trans (below_of_grown g5 (by omega) s4)
      have G5 := Lib.hid R5; clear R5
      go_wp2_with fail
      refine (err_any g g _ w5 G5.out).mono ?_
      rintro e w' ⟨rfl, rfl⟩
      go_wp2_with fail
      go_ret
      exact ⟨rfl, B5⟩

set_option maxRecDepth 100000 in
theorem lifted (os : Os) (started : os.Started) (H : Type) (enc : TypeId × Value → H) :
    ReturnsInHanded {} Try.checked os 6 .any (Rows.packShortSpec.pre6 enc Try.prog Try.f6 Rows.packShortRow.domain false) (Rows.packShortSpec.post enc Try.prog Try.f6 false true false false) := by
  refine returnsInHanded_of_change (C := Try.checked) ownKnobs started (by kernel_rfl) Try.func6
    (ChangeSpec.witness6 (enc := enc) (C := Try.checked) false ⟨#[], #[.int .u64 0, .int .u8 0, .int .u8 0], []⟩ 8 (by kernel_rfl) (by kernel_rfl) (by kernel_rfl) (by kernel_rfl)) ?_
  intro W base args ds gs before hval hW _ _
  refine law_contract rfl rfl (fun ds h => by match ds, h with | [d1, d2, d3], _ => rfl) (by decide +kernel) hW ?_
  obtain ⟨p, q, hA0, _⟩ := hW
  have hA : DataW.TrodAll enc Try.prog W 0 (fun _ => true) true Try.f6.params.toList args.toList ds p := hA0
  have hval' : ∀ (j : Nat) t v, Try.f6.params[j]? = some t → args[j]? = some v → Value.okWide Try.prog W .any base t v := hval
  rw [Try.params6] at hA hval'
  obtain ⟨v0, vs0, d0, ds0, p0, q0, hargs, rfl, rfl, h0, r0⟩ := trodAll_cons hA
  obtain ⟨v1, vs1, d1, ds1, p1, q1, rfl, rfl, rfl, h1, r1⟩ := trodAll_cons r0
  obtain ⟨v2, vs2, d2, ds2, p2, q2, rfl, rfl, rfl, h2, r2⟩ := trodAll_cons r1
  obtain ⟨rfl, rfl, rfl⟩ := trodAll_nil r2
  obtain rfl : args = #[v0, v1, v2] := by cases args; simp_all
  obtain ⟨a0, rfl, rfl, rfl, w0⟩ := open_int Try.underlying29 (hval' 0 _ v0 rfl rfl) h0
  obtain ⟨a1, rfl, rfl, rfl, w1⟩ := open_int Try.underlying5 (hval' 1 _ v1 rfl rfl) h1
  obtain ⟨a2, rfl, rfl, rfl, w2⟩ := open_int Try.underlying5 (hval' 2 _ v2 rfl rfl) h2
  have b0 : 0 ≤ a0 ∧ a0 ≤ 18446744073709551615 := by simpa [Lit.wf, IntKind.min, IntKind.max, IntKind.signed, IntKind.bits] using w0
  have b1 : 0 ≤ a1 ∧ a1 ≤ 255 := by simpa [Lit.wf, IntKind.min, IntKind.max, IntKind.signed, IntKind.bits] using w1
  have b2 : 0 ≤ a2 ∧ a2 ≤ 255 := by simpa [Lit.wf, IntKind.min, IntKind.max, IntKind.signed, IntKind.bits] using w2
  obtain ⟨n, rfl⟩ : ∃ n : Nat, a0 = n := ⟨a0.toNat, by omega⟩
  obtain ⟨k, rfl⟩ : ∃ k : Nat, a1 = k := ⟨a1.toNat, by omega⟩
  obtain ⟨cut, rfl⟩ : ∃ c : Nat, a2 = c := ⟨a2.toNat, by omega⟩
  exact walk n k cut (by omega) (by omega) (by omega) W

theorem proved : Rows.PackShortSaid :=
  OpenClaim.holds_of_wide 6 Try.f6 rfl rfl rfl rfl rfl rfl rfl ⟨rfl, rfl, rfl, rfl, rfl⟩ rfl rfl rfl rfl rfl (by kernel_rfl) Try.func6 (by kernel_rfl)
    (of_decide_eq_true (by kernel_rfl)) (by unfold Func.isWrapper; first | (rw [if_pos (by decide +kernel)]; kernel_rfl) | (rw [if_neg (by decide +kernel)]; exact ⟨rfl, rfl⟩))
    (fun os started H enc _ => lifted os started H enc)

end Go.Proofs.Ytcmjmbemlfcdjaa.packShort
