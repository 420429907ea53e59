/- LatticeBelow returns true for every input and changes nothing: what is below a label are the labels that it joins to nothing new; all labels are below the highest, and only the lowest is below the lowest. No condition. -/
import Derived.Test.YtidjohhnggpibaaKnown3
import Derived.Test.YtidjohhnggpibaaLaw
import Derived.Deep.CutRange
import Derived.Deep.DeepCutAuto
namespace Go.Proofs.Ytidjohhnggpibaa.latticeBelow
open Go.RowKit Go.ChangeShapes Go.WideShapes Go.ChangeAt

theorem tops (k : Nat) : (belowT (seatT k) (topT (seatT k))).length = seatN k ∧ (belowT (seatT k) (botT (seatT k))).length = 1 := by
  have h : k % 6 = 0 ∨ k % 6 = 1 ∨ k % 6 = 2 ∨ k % 6 = 3 ∨ k % 6 = 4 ∨ k % 6 = 5 := by omega
  unfold seatT seatN seatZ
  rcases h with h | h | h | h | h | h <;> rw [h] <;> decide +kernel
/-- What stands at the place that the count has reached. -/
theorem below_at {T : List (List Bool)} {c : Nat} {a : Int} (h : flowsT T c a = true) : ∀ n, c < n → (belowK T n a)[(belowK T c a).length]? = some c := by
  intro n
  induction n with
  | zero => intro hc; omega
  | succ n ih =>
    intro hc
    rcases Nat.lt_or_ge c n with h1 | h1
    · have h2 := ih h1
      have h3 : (belowK T c a).length < (belowK T n a).length := (List.getElem?_eq_some_iff.1 h2).1
      cases hz : flowsT T n a with
      | true => rw [belowK_yes hz, List.getElem?_append_left h3]; exact h2
      | false => rw [belowK_no hz]; exact h2
    · obtain rfl : c = n := by omega
      rw [belowK_yes h]
      simp
theorem below_self {T : List (List Bool)} {a : Nat} (hl : latB T = true) (ha : a < T.length) : 1 ≤ (belowT T a).length := by
  refine List.length_pos_iff.2 fun e => ?_
  have : a ∈ belowT T (a : Int) := by
    unfold belowT
    refine List.mem_filter.2 ⟨by simpa using ha, ?_⟩
    rw [flowsT_yes hl ha ha]
    exact (lat_jn hl).refl a ha
  rw [e] at this; cases this
theorem join_flows {T : List (List Bool)} {a c : Nat} (hl : latB T = true) (ha : a < T.length) (hc : c < T.length) : flowsT T c a = decide (joinZ T a c = (a : Int)) := by
  rw [flowsT_yes hl hc ha, (lat_jn hl).le_iff hc ha, joinZ_yes hl ha hc, (lat_jn hl).comm hc ha, Bool.eq_iff_iff, decide_eq_true_iff, decide_eq_true_iff]
  omega

set_option maxRecDepth 100000 in
set_option maxHeartbeats 8000000 in
theorem walk (k x : Nat) (w : World) (hk : k ≤ 255) (hx : x ≤ 255) :
    Calls Try.prog 6 #[.int .u8 k, .int .u8 x] w fun e w' => e = .returned (.bool true) ∧ Below w.heap.size w w' := by
  obtain ⟨n, hn⟩ : ∃ n, seatN k = n := ⟨_, rfl⟩
  obtain ⟨T, hT⟩ : ∃ T, seatT k = T := ⟨_, rfl⟩
  have hn2 := seatN_le k
  have hlat := seat_lat k
  have htop := tops k
  have hlen := seatT_len k
  have hst : tabOf (seatN k) (seatZ k) = seatT k := rfl
  rw [hT] at hlat htop hlen hst
  rw [hn] at hn2 htop hlen hst
  have HSE := Lib.hid (seat_any k hk); rw [hn] at HSE
  generalize seatZ k = Z at *
  clear hT hn
  obtain ⟨a, ha⟩ : ∃ a : Nat, x % n = a := ⟨_, rfl⟩
  have han : a < n := by rw [← ha]; exact Nat.mod_lt _ (by omega)
  have hai : (x : Int) % (n : Int) = a := by omega
  have hat : (x : Int).tmod (n : Int) = a := by rw [Int.tmod_eq_emod_of_nonneg (by omega)]; exact hai
  have HL := Lib.hid hlat; clear hlat
  have HLEN := Lib.hid hlen; clear hlen
  have HTOP := Lib.hid htop; clear htop
  have HST := Lib.hid hst; clear hst
  clear ha
  go_enter Try.func6, Try.ntmps6
  go_wp2_with fail
  refine (known_any w).mono ?_
  rintro e w1 ⟨rfl, hb⟩
  have B1 := Lib.hid hb; clear hb
  go_wp2_with fail
  refine (HSE.out w1).mono ?_
  rintro e w2 ⟨v, G, C, rfl, hg, hb⟩
  obtain ⟨gq, cq, rfl, hxx⟩ := hg.grid (by omega)
  clear hxx
  have HQ := Lib.hid hg.tab; clear hg
  rw [HST.out] at HQ
  have B2 := Lib.hid (nextB B1.out hb); clear hb
  go_wp2_with fail
  refine (new_any w2 HQ.out).mono ?_
  rintro e w3 hm
  obtain ⟨g, rfl, hl, hb⟩ := hm.yes HL.out
  clear hm
  have B3 := Lib.hid (nextB B2.out hb); clear hb HQ
  have HV := Lib.hid hl; clear hl
  go_wp2_with fail
  clear hai hat
  refine (below_m (a : Int) w3 HV.out).mono ?_
  rintro e w4 ⟨v4, rfl, hv, hb⟩
  obtain ⟨A4, c4, rfl, hL⟩ := hv
  rw [nats_length]
  have HLI := Lib.hid hL; clear hL
  have HV4 := Lib.hid (HV.out.later hb)
  have B4 := Lib.hid (nextB B3.out hb); clear hb
  obtain ⟨m, hm⟩ : ∃ m, (belowT T (a : Int)).length = m := ⟨_, rfl⟩
  have hm1 : 1 ≤ m := by rw [← hm]; exact below_self HL.out (by rw [HLEN.out]; exact han)
  have hmK : (belowK T n (a : Int)).length = m := by rw [← hm]; unfold belowK belowT; rw [HLEN.out]
  have hm16 : m ≤ n := by rw [← hmK]; exact belowK_len _ _ _
  rw [hm]
  have HM := Lib.hid hm; clear hm
  have HMK := Lib.hid hmK; clear hmK
  clear HV B1 B2 B3
  go_wp2_with fail
  go_loop [10, 11] (fun s i => ∃ c p : Nat, c ≤ n ∧ i = .int .i64 c ∧ (belowK T c (a : Int)).length = p ∧ s = .int .i64 p) (fun _ i => n - (intOf i).toNat)
  case atStart => exact ⟨0, 0, by omega, rfl, rfl, rfl⟩
  case round =>
    obtain ⟨c, p, hc, rfl, hp, rfl⟩ := hrel
    have HP := Lib.hid hp; clear hp
    by_cases hcn : c < n
    · have hq := join_m (a : Int) (c : Int) w4 HV4.out
      have hjf := join_flows HL.out (a := a) (c := c) (by rw [HLEN.out]; exact han) (by rw [HLEN.out]; exact hcn)
      obtain ⟨j, hj⟩ : ∃ j, joinZ T (a : Int) (c : Int) = j := ⟨_, rfl⟩
      rw [hj] at hq hjf
      have Q := Lib.hid hq; clear hq hj
      by_cases hja : j = (a : Int)
      · have hz : flowsT T (c : Int) (a : Int) = true := by rw [hjf]; exact decide_eq_true hja
        have hat := below_at hz n hcn
        have HPN := Lib.hid (show (belowK T (c + 1) (a : Int)).length = p + 1 by rw [belowK_yes hz, List.length_append, HP.out]; rfl)
        rw [HP.out] at hat
        have hpm : p < m := by rw [← HMK.out]; exact (List.getElem?_eq_some_iff.1 hat).1
        have hat2 : (belowT T (a : Int))[p]? = some c := by
          have e : belowT T (a : Int) = belowK T n (a : Int) := by unfold belowK belowT; rw [HLEN.out]
          rw [e]; exact hat
        obtain ⟨hpl, hpe⟩ := List.getElem?_eq_some_iff.1 hat2
        obtain ⟨b, o, rfl, _, hcell⟩ := lie_nat HLI.out hpl
        rw [hpe] at hcell
        subst hja
        clear hjf hz hat hat2 hpe hpl
        have d1 : decide ((m : Int) ≤ (p : Int)) = false := by simp; omega
        have ez : (((a : Int)) != ((a : Int))) = false := by simp
        have ec : (((c : Int)) != ((c : Int))) = false := by simp
        go_wp2_with fail
        refine Q.out.mono ?_
        rintro e w' ⟨rfl, rfl⟩
        go_wp2_with fail
        go_round
        case rel => exact ⟨c + 1, p + 1, by omega, by go_num, HPN.out, by go_num⟩
        case measure => simp [intOf]; omega
      · have hz : flowsT T (c : Int) (a : Int) = false := by rw [hjf]; exact decide_eq_false hja
        have HPN := Lib.hid (show (belowK T (c + 1) (a : Int)).length = p by rw [belowK_no hz, HP.out])
        have ez : (j != (a : Int)) = true := by simpa using hja
        have ez2 : (j == (a : Int)) = false := by simpa using hja
        clear hjf hz hja
        go_wp2_with fail
        refine Q.out.mono ?_
        rintro e w' ⟨rfl, rfl⟩
        go_wp2_with fail
        go_round
        case rel => exact ⟨c + 1, p, by omega, by go_num, HPN.out, rfl⟩
        case measure => simp [intOf]; omega
    · obtain rfl : c = n := by omega
      obtain rfl : p = m := by rw [← HP.out, HMK.out]
      have d1 : decide ((1 : Int) ≤ (p : Int)) = true := by simp; omega
      have QT := Lib.hid (top_m w4 HV4.out)
      go_wp2_with fail
      refine QT.out.mono ?_
      rintro e w' ⟨rfl, rfl⟩
      go_wp2_with fail
      refine (below_m (topT T : Int) w4 HV4.out).mono ?_
      rintro e w5 ⟨v5, rfl, hv, hb⟩
      obtain ⟨A5, c5, rfl, hL5⟩ := hv
      obtain ⟨b5, o5, rfl, _, _⟩ := lie_nat hL5 (k := 0) (by rw [HTOP.out.1]; omega)
      rw [nats_length, HTOP.out.1]
      clear hL5
      have HV5 := Lib.hid (HV4.out.later hb)
      have B5 := Lib.hid (nextB B4.out hb); clear hb QT
      have QT := Lib.hid (top_m w5 HV5.out)
      go_wp2_with fail
      refine QT.out.mono ?_
      rintro e w' ⟨rfl, rfl⟩
      go_wp2_with fail
      refine (below_m (topT T : Int) w5 HV5.out).mono ?_
      rintro e w6 ⟨v6, rfl, hv, hb⟩
      obtain ⟨A6, c6, rfl, hL6⟩ := hv
      rw [nats_length, HTOP.out.1]
      clear hL6
      have HV6 := Lib.hid (HV5.out.later hb)
      have B6 := Lib.hid (nextB B5.out hb); clear hb QT
      have QB := Lib.hid (bottom_m w6 HV6.out)
      go_wp2_with fail
      refine QB.out.mono ?_
      rintro e w' ⟨rfl, rfl⟩
      go_wp2_with fail
      refine (below_m (botT T : Int) w6 HV6.out).mono ?_
      rintro e w7 ⟨v7, rfl, hv, hb⟩
      obtain ⟨A7, c7, rfl, hL7⟩ := hv
      rw [nats_length, HTOP.out.2]
      clear hL7
      have B7 := Lib.hid (nextB B6.out hb); clear hb QB
      go_wp2_with fail
      go_ret
      exact ⟨rfl, B7.out⟩

/- The claim. -/

set_option maxRecDepth 100000 in
theorem lifted (os : Os) (started : os.Started) (H : Type) (enc : TypeId × Value → H) :
    ReturnsInHanded {} Try.checked os 6 .any (Rows.latticeBelowSpec.pre6 enc Try.prog Try.f6 Rows.latticeBelowRow.domain false) (Rows.latticeBelowSpec.post enc Try.prog Try.f6 false true false false) := by
  refine returnsInHanded_of_change (C := Try.checked) ownKnobs started (by kernel_rfl) Try.func6
    (ChangeSpec.witness6 (enc := enc) (C := Try.checked) false ⟨#[], #[.int .u8 0, .int .u8 0], []⟩ 8 (by kernel_rfl) (by kernel_rfl) (by kernel_rfl) (by kernel_rfl)) ?_
  intro W base args ds gs before hval hW _ _
  refine law_contract rfl rfl (fun ds h => by match ds, h with | [d1, d2], _ => rfl) (by decide +kernel) hW ?_
  obtain ⟨p, q, hA0, _⟩ := hW
  have hA : DataW.TrodAll enc Try.prog W 0 (fun _ => true) true Try.f6.params.toList args.toList ds p := hA0
  have hval' : ∀ (j : Nat) t v, Try.f6.params[j]? = some t → args[j]? = some v → Value.okWide Try.prog W .any base t v := hval
  rw [Try.params6] at hA hval'
  obtain ⟨v0, vs0, d0, ds0, p0, q0, hargs, rfl, rfl, h0, r0⟩ := trodAll_cons hA
  obtain ⟨v1, vs1, d1, ds1, p1, q1, rfl, rfl, rfl, h1, r1⟩ := trodAll_cons r0
  obtain ⟨rfl, rfl, rfl⟩ := trodAll_nil r1
  obtain rfl : args = #[v0, v1] := by cases args; simp_all
  obtain ⟨z0, rfl, rfl, rfl, w0⟩ := open_int Try.underlying5 (hval' 0 _ v0 rfl rfl) h0
  have b0 : 0 ≤ z0 ∧ z0 ≤ 255 := by simpa [Lit.wf, IntKind.min, IntKind.max, IntKind.signed, IntKind.bits] using w0
  obtain ⟨a0, rfl⟩ : ∃ n : Nat, z0 = n := ⟨z0.toNat, by omega⟩
  obtain ⟨z1, rfl, rfl, rfl, w1⟩ := open_int Try.underlying5 (hval' 1 _ v1 rfl rfl) h1
  have b1 : 0 ≤ z1 ∧ z1 ≤ 255 := by simpa [Lit.wf, IntKind.min, IntKind.max, IntKind.signed, IntKind.bits] using w1
  obtain ⟨a1, rfl⟩ : ∃ n : Nat, z1 = n := ⟨z1.toNat, by omega⟩
  exact walk a0 a1 W (by omega) (by omega)

theorem proved : Rows.LatticeBelowSaid :=
  OpenClaim.holds_of_wide 6 Try.f6 rfl rfl rfl rfl rfl rfl rfl ⟨rfl, rfl, rfl, rfl, rfl⟩ rfl rfl rfl rfl rfl (by kernel_rfl) Try.func6 (by kernel_rfl)
    (of_decide_eq_true (by kernel_rfl)) (by unfold Func.isWrapper; first | (rw [if_pos (by decide +kernel)]; kernel_rfl) | (rw [if_neg (by decide +kernel)]; exact ⟨rfl, rfl⟩))
    (fun os started H enc _ => lifted os started H enc)

end Go.Proofs.Ytidjohhnggpibaa.latticeBelow
