/- TableShares returns true for every input and changes nothing: every period has each label's rounds, and the next one is less than a period away. No condition. -/
import Derived.Test.YtnelaeafjejjgaaKnown18
import Derived.Test.YtnelaeafjejjgaaRef18
import Derived.Test.YtnelaeafjejjgaaMk18
namespace Go.Proofs.Ytnelaeafjejjgaa.tableShares
set_option maxRecDepth 100000
open Go.RowKit Go.ChangeShapes Go.WideShapes Go.ChangeAt

set_option maxRecDepth 100000 in
set_option maxHeartbeats 16000000 in
theorem walk (lv : Value) (l : List Int) (q8 f g : Nat) (w : World) (hl : BytV w w.heap.size lv l) (hmx : l.length ≤ maxLen) (hy : IsByt l) (_hq8 : q8 ≤ 255) (hf : f ≤ 65535) (hg8 : g ≤ 255) :
    Calls Try.prog 12 #[lv, .int .u8 q8, .int .u16 f, .int .u8 g] w fun e w' => e = .returned (.bool true) ∧ Below w.heap.size w w' := by
  obtain ⟨A, c, rfl, hcp, hl⟩ := hl
  have HL := Lib.hid hl; have HY := Lib.hid hy; clear hl hy
  obtain ⟨n, hn⟩ : ∃ n, l.length = n := ⟨_, rfl⟩
  have HN := Lib.hid hn
  rw [hn] at hmx hcp ⊢
  unfold maxLen at hmx
  clear hn
  by_cases hs : 64 < n
  · skip
    go_enter Try.func12, Try.ntmps12
    go_wp2_with fail
    refine (known18_any w).mono ?_
    rintro e w1 ⟨rfl, hb1⟩
    go_wp2_with fail
    go_ret
    exact ⟨rfl, hb1⟩
  by_cases hs : n = 0
  · subst hs
    go_enter Try.func12, Try.ntmps12
    go_wp2_with fail
    refine (known18_any w).mono ?_
    rintro e w1 ⟨rfl, hb1⟩
    go_wp2_with fail
    go_ret
    exact ⟨rfl, hb1⟩
  have hk64 : n ≤ 64 := by omega
  have hk0 : 0 < n := by omega
  have z0 : ((n : Int) == 0) = false := by simp; omega
  obtain ⟨C, hC⟩ : ∃ C : Nat, (q8 : Int) % 5 = (C : Int) := ⟨q8 % 5, by omega⟩
  have hC2 : C < 5 := by omega
  have C_lo : 0 ≤ (C : Int) ∧ (C : Int) < 5 := by omega
  go_enter Try.func12, Try.ntmps12
  go_wp2_with fail
  refine (known18_any w).mono ?_
  rintro e w1 ⟨rfl, hb1⟩
  have B1 := Lib.hid hb1; clear hb1
  go_wp2_with fail
  go_loopw [9, 10, 11] (fun v o i wr => ∃ k : Nat, k ≤ n ∧ i = .int .i64 k ∧ OwnN wr w1.heap.size v (modL 5 (l.take k)) ∧ Below w1.heap.size w1 wr ∧ o = .int .i64 (cntL (modL 5 l) C k : Nat)) (fun _ _ i _ => n - (intOf i).toNat)
  case atStart => exact ⟨0, Nat.zero_le _, rfl, by simpa [modL] using OwnN.nil w1 w1.heap.size, Below.refl _ _, rfl⟩
  case round =>
    obtain ⟨k, hk, rfl, ho, hb, rfl⟩ := hrel
    have hsz := hb.size
    have HO := Lib.hid ho; have HB := Lib.hid hb; clear ho hb
    by_cases hkn : k < n
    · have hkl : k < l.length := by rw [HN.out]; exact hkn
      obtain ⟨b, off, rfl, hbb, c1⟩ := lie_u8 HL.out hkl
      have hx := HY.out l[k] (List.getElem_mem hkl)
      have c2 : wr.cell? ⟨b, off + k, none⟩ = some (.int .u8 l[k]) := by
        rw [HB.out.cell (p := ⟨b, off + k, none⟩) (by have := B1.out.size; show b < _; omega), B1.out.cell (p := ⟨b, off + k, none⟩) hbb, c1]
      have HS := Lib.hid (modL_step (M := 5) hkl)
      have hlen : (modL 5 (l.take k)).length = k := by rw [modL_length, List.length_take]; omega
      have HG := Lib.hid (modL_get (M := 5) hkl)
      have HCS := Lib.hid (cntL_step (l := modL 5 l) (c := C) (k := k) (by rw [modL_length]; exact hkl))
      have hcle := cntL_le (modL 5 l) C k
      rw [HG.out] at HCS
      have hbw : b < w1.heap.size ∧ b < wr.heap.size := by have := B1.out.size; omega
      clear c1 hbb
      obtain ⟨x, hxx⟩ : ∃ x, l[k] = x := ⟨_, rfl⟩
      rw [hxx] at c2 hx HS HCS
      clear hxx HG
      obtain ⟨y, hy⟩ : ∃ y, x % 5 = y := ⟨_, rfl⟩
      rw [hy] at HS HCS
      have hy2 : 0 ≤ y ∧ y < 5 := by omega
      have HO2 := Lib.hid (HO.out.alloc (.cells #[.int .i64 y] 3))
      have HLEN := Lib.hid hlen; clear hlen
      have hc1 := C_lo
      by_cases hyc : y = C
      · have HC2 : Hid (cntL (modL 5 l) C (k + 1) = cntL (modL 5 l) C k + 1) := Lib.hid (by rw [HCS.out, hyc]; simp)
        clear HCS
        obtain ⟨q, hq⟩ : ∃ q, cntL (modL 5 l) C k = q := ⟨_, rfl⟩
        rw [hq] at HC2 hcle ⊢
        clear hq
        have e1 : (y == C) = true := by simpa using hyc
        clear hyc
        go_wp2_with (at_builtin; go_must (refine wpList_append_L 27 3 _ 8 Try.underlying27 inf_int rfl rfl _ _ rfl w1.heap.size _ _ _ rfl HO2.out (wr.heap.size + 1) _ 1 1 [.int .i64 y] rfl rfl (lies_new wr [.int .i64 y] 3) ?c2 ?c3 ?c4 ?c5 ?_))
        case c2 => intro u hu; simp at hu; subst hu; rfl
        case c3 => have := HLEN.out; omega
        case c4 => omega
        case c5 => simp; omega
        intro v3 w3 ho3 _ hb3
        have HO3 := Lib.hid (OwnN.snoc rfl ho3 HS.out); clear ho3
        have HB3 := Lib.hid ((HB.out.trans ((below_alloc wr (.cells #[.int .i64 y] 3)).mono hsz)).trans hb3)
        have c3 : w3.cell? ⟨b, off + k, none⟩ = some (.int .u8 x) := by
          rw [hb3.cell (p := ⟨b, off + k, none⟩) hbw.1, (below_alloc wr _).cell (p := ⟨b, off + k, none⟩) hbw.2, c2]

        clear hb3
        go_wp2_with fail
        go_roundw
        case rel => exact ⟨k + 1, by omega, by go_num, HO3.out, HB3.out, by rw [HC2.out]; go_num⟩
        case measure => simp [intOf]; omega
      · have HC2 : Hid (cntL (modL 5 l) C (k + 1) = cntL (modL 5 l) C k) := Lib.hid (by rw [HCS.out]; simp [hyc])
        clear HCS
        obtain ⟨q, hq⟩ : ∃ q, cntL (modL 5 l) C k = q := ⟨_, rfl⟩
        rw [hq] at HC2 hcle ⊢
        clear hq
        have e1 : (y == C) = false := by simpa using hyc
        clear hyc
        go_wp2_with (at_builtin; go_must (refine wpList_append_L 27 3 _ 8 Try.underlying27 inf_int rfl rfl _ _ rfl w1.heap.size _ _ _ rfl HO2.out (wr.heap.size + 1) _ 1 1 [.int .i64 y] rfl rfl (lies_new wr [.int .i64 y] 3) ?c2 ?c3 ?c4 ?c5 ?_))
        case c2 => intro u hu; simp at hu; subst hu; rfl
        case c3 => have := HLEN.out; omega
        case c4 => omega
        case c5 => simp; omega
        intro v3 w3 ho3 _ hb3
        have HO3 := Lib.hid (OwnN.snoc rfl ho3 HS.out); clear ho3
        have HB3 := Lib.hid ((HB.out.trans ((below_alloc wr (.cells #[.int .i64 y] 3)).mono hsz)).trans hb3)
        have c3 : w3.cell? ⟨b, off + k, none⟩ = some (.int .u8 x) := by
          rw [hb3.cell (p := ⟨b, off + k, none⟩) hbw.1, (below_alloc wr _).cell (p := ⟨b, off + k, none⟩) hbw.2, c2]

        clear hb3
        go_wp2_with fail
        go_roundw
        case rel => exact ⟨k + 1, by omega, by go_num, HO3.out, HB3.out, by rw [HC2.out]⟩
        case measure => simp [intOf]; omega
    · obtain rfl : k = n := by omega
      have HT : Hid (modL 5 (l.take k) = modL 5 l) := Lib.hid (by rw [List.take_of_length_le (by rw [HN.out]; omega)])
      have HV := Lib.hid HO.out.cap
      rw [HT.out] at HV
      have HTL : Hid ((modL 5 l).length = k) := Lib.hid (by rw [modL_length, HN.out])
      have HTR := Lib.hid (modL_range (M := 5) (by decide) (l := l))
      clear HO HT
      obtain ⟨T, hT⟩ : ∃ T, modL 5 l = T := ⟨_, rfl⟩
      rw [hT] at HV HTL HTR ⊢
      clear hT hkn
      obtain ⟨O, hO⟩ : ∃ O, cntL T C k = O := ⟨_, rfl⟩
      have HOW : Hid (cntL T C T.length = O) := Lib.hid (by rw [HTL.out]; exact hO)
      rw [hO]
      clear hO
      have hOle : O ≤ 64 := by have := cntL_le T C T.length; rw [HTL.out, show cntL T C k = O from by have := HOW.out; rwa [HTL.out] at this] at this; omega
      have hrf : Rnd (f : Int) f := .inr ⟨by omega, rfl⟩
      have HNX := Lib.hid (fun n => next18_any (C : Int) f f (wr.drewN n) (HV.out.drew n).ints (by rw [HTL.out]; omega) hrf (by omega))
      have HSL := Lib.hid (fun (a b : Nat) (ha : a ≤ 1000000) (hb : b ≤ 1000000) n => slots18_any (C : Int) a b a b (wr.drewN n) (HV.out.drew n) (by rw [HTL.out]; omega) (by rw [HTL.out]; omega) (.inr ⟨by omega, rfl⟩) (by omega) (.inr ⟨by omega, rfl⟩) (by omega))
      have HCASE := Lib.hid (nextN_cases T C f)
      have HOZ := Lib.hid (fun (h : ∀ i, i < T.length → atN T (f + i) ≠ (C : Int)) => own_zero h)
      have HOP := Lib.hid (fun k (hk : k < T.length) (h : atN T (f + k) = (C : Int)) => own_pos hk h)
      have HZA := Lib.hid (fun (h : cntL T C T.length = 0) a d => zero_all (by rw [HTL.out]; omega) h a d)
      have HTD := Lib.hid (fun n => turns_diff T C f n)
      have HND := Lib.hid (fun d (h : ∀ i, i < d → atN T (f + i) ≠ (C : Int)) => none_diff h)
      have HAT := Lib.hid (fun (x : Nat) (hx : x ≤ 1000000) n => at18_any (x : Int) x (wr.drewN n) (HV.out.drew n).ints (by rw [HTL.out]; omega) (by rw [HTL.out]; omega) (.inr ⟨by omega, rfl⟩) (by omega))
      rw [HTL.out] at HOZ HOP HZA HTD HCASE HOW
      obtain ⟨A2, cp2, rfl, hcp2, hl2⟩ := HV.out
      rw [HTL.out] at HNX HSL HAT ⊢
      clear hrf HV hcp2 hl2
      rcases HCASE.out with ⟨hx, hno⟩ | ⟨j, hx, hj, hhit, hno⟩
      · have hO0 : O = 0 := by rw [← HOW.out]; exact HOZ.out hno
        rw [hO0] at HOW
        have e0 : ((O : Int) == 0) = true := by rw [hO0]; rfl
        clear hO0
        obtain ⟨th, hth⟩ : ∃ th : Nat, th = 1000 := ⟨_, rfl⟩
        have hz := HZA.out HOW.out f th
        obtain ⟨D, hD⟩ : ∃ D, f + th = D := ⟨_, rfl⟩
        rw [hD] at hz
        have HS := Lib.hid (fun n => HSL.out f D (by omega) (by omega) n)
        rw [hz] at HS
        rw [hx] at HNX
        have e1 : (f : Int) + 1000 = (D : Int) := by omega
        clear hx hno HCASE hz hth hD HSL HZA HTD HND HAT HOZ HOP
        go_wp2_with fail
        refine (HNX.out 0).mono ?_
        rintro e w' ⟨rfl, m0, rfl⟩
        rw [show (wr.drewN 0).drewN m0 = wr.drewN m0 from by rw [World.drewN_drewN, Nat.zero_add]]
        go_wp2_with fail
        refine (HS.out m0).mono ?_
        rintro e w' ⟨rfl, m1, rfl⟩
        rw [World.drewN_drewN]
        go_wp2_with fail
        go_ret
        exact ⟨rfl, below_drewN (B1.out.trans (HB.out.mono B1.out.size)) _⟩
      · have HO0 : Hid (O ≠ 0) := Lib.hid (by rw [← HOW.out]; exact HOP.out j hj hhit)
        have HX := Lib.hid hx
        rw [hx] at HNX
        have hS1 := HND.out j hno
        obtain ⟨X, hX⟩ : ∃ X, f + j = X := ⟨_, rfl⟩
        rw [hX] at hS1 hhit HNX
        have HS1 := Lib.hid (fun n => HSL.out f X (by omega) (by omega) n)
        rw [hS1] at HS1
        have HA := Lib.hid (fun n => HAT.out X (by omega) n)
        rw [hhit] at HA
        have hg : g * k ≤ 255 * 64 := Nat.mul_le_mul hg8 hk64
        have hgo : g * O ≤ 255 * 64 := Nat.mul_le_mul hg8 hOle
        have ht := HTD.out g
        rw [HOW.out] at ht
        have hpe : (g : Int) * (k : Int) = ((g * k : Nat) : Int) := by rw [Int.natCast_mul]
        have hre : (g : Int) * (O : Int) = ((g * O : Nat) : Int) := by rw [Int.natCast_mul]
        obtain ⟨p, hp⟩ : ∃ p, g * k = p := ⟨_, rfl⟩
        obtain ⟨r, hr⟩ : ∃ r, g * O = r := ⟨_, rfl⟩
        rw [hp] at ht hg hpe; rw [hr] at ht hgo hre
        obtain ⟨Y, hY⟩ : ∃ Y, f + p = Y := ⟨_, rfl⟩
        rw [hY] at ht
        have HS2 := Lib.hid (fun n => HSL.out f Y (by omega) (by omega) n)
        rw [ht] at HS2
        have e0 : ((O : Int) == 0) = false := by have := HO0.out; simp; omega
        have e3 : (f : Int) + (p : Int) = (Y : Int) := by omega
        have e5 : ((C : Int) == (C : Int)) = true := beq_self_eq_true _
        have e6 : ((r : Int) == (r : Int)) = true := beq_self_eq_true _
        have z1 : decide (f ≤ X) = true := by simp; omega
        have z3 : decide ((f : Int) ≤ (X : Int)) = true := by simp; omega
        have z2 : decide ((X : Int) < (f : Int) + k) = true := by simp; omega
        clear hx hS1 hhit hno HCASE HSL HZA HTD HND HAT HOZ HOP ht hp hr hY hX
        go_wp2_with fail
        refine (HNX.out 0).mono ?_
        rintro e w' ⟨rfl, m0, rfl⟩
        rw [show (wr.drewN 0).drewN m0 = wr.drewN m0 from by rw [World.drewN_drewN, Nat.zero_add]]
        go_wp2_with fail
        refine (HA.out _).mono ?_
        rintro e w' ⟨rfl, m1, rfl⟩
        rw [World.drewN_drewN]
        go_wp2_with fail
        refine (HS1.out _).mono ?_
        rintro e w' ⟨rfl, m2, rfl⟩
        rw [World.drewN_drewN]
        go_wp2_with fail
        refine (HS2.out _).mono ?_
        rintro e w' ⟨rfl, m3, rfl⟩
        rw [World.drewN_drewN]
        go_wp2_with fail
        go_ret
        exact ⟨rfl, below_drewN (B1.out.trans (HB.out.mono B1.out.size)) _⟩

/- The claim. -/

set_option maxRecDepth 100000 in
theorem lifted (os : Os) (started : os.Started) (H : Type) (enc : TypeId × Value → H) :
    ReturnsInHanded {} Try.checked os 12 .any (Rows.tableSharesSpec.pre6 enc Try.prog Try.f12 Rows.tableSharesRow.domain false) (Rows.tableSharesSpec.post enc Try.prog Try.f12 false true false false) := by
  refine returnsInHanded_of_change (C := Try.checked) ownKnobs started (by kernel_rfl) Try.func12
    (ChangeSpec.witness6 (enc := enc) (C := Try.checked) false ⟨#[], #[.slice none 0 0, .int .u8 0, .int .u16 0, .int .u8 0], []⟩ 8 (by kernel_rfl) (by kernel_rfl) (by kernel_rfl) (by kernel_rfl)) ?_
  intro W base args ds gs before hval hW _ _
  refine law_contract rfl rfl (fun ds h => by match ds, h with | [d1, d2, d3, d4], _ => rfl) (by decide +kernel) hW ?_
  obtain ⟨p, q, hA0, _⟩ := hW
  have hA : DataW.TrodAll enc Try.prog W 0 (fun _ => true) true Try.f12.params.toList args.toList ds p := hA0
  have hval' : ∀ (j : Nat) t v, Try.f12.params[j]? = some t → args[j]? = some v → Value.okWide Try.prog W .any base t v := hval
  rw [Try.params12] at hA hval'
  obtain ⟨v0, vs0, d0, ds0, p0, q0, hargs, rfl, rfl, h0, r0⟩ := trodAll_cons hA
  obtain ⟨v1, vs1, d1, ds1, p1, q1, rfl, rfl, rfl, h1, r1⟩ := trodAll_cons r0
  obtain ⟨v2, vs2, d2, ds2, p2, q2, rfl, rfl, rfl, h2, r2⟩ := trodAll_cons r1
  obtain ⟨v3, vs3, d3, ds3, p3, q3, rfl, rfl, rfl, h3, r3⟩ := trodAll_cons r2
  obtain ⟨rfl, rfl, rfl⟩ := trodAll_nil r3
  obtain rfl : args = #[v0, v1, v2, v3] := by cases args; simp_all
  obtain ⟨l0, h0, m0, y0⟩ := open_bytv (hval' 0 _ v0 rfl rfl) h0
  obtain ⟨z1, rfl, rfl, rfl, w1⟩ := open_int Try.underlying5 (hval' 1 _ v1 rfl rfl) h1
  have b1 : 0 ≤ z1 ∧ z1 ≤ 255 := by simpa [Lit.wf, IntKind.min, IntKind.max, IntKind.signed, IntKind.bits] using w1
  obtain ⟨a1, rfl⟩ : ∃ n : Nat, z1 = n := ⟨z1.toNat, by omega⟩
  obtain ⟨z2, rfl, rfl, rfl, w2⟩ := open_int Try.underlying42 (hval' 2 _ v2 rfl rfl) h2
  have b2 : 0 ≤ z2 ∧ z2 ≤ 65535 := by simpa [Lit.wf, IntKind.min, IntKind.max, IntKind.signed, IntKind.bits] using w2
  obtain ⟨a2, rfl⟩ : ∃ n : Nat, z2 = n := ⟨z2.toNat, by omega⟩
  obtain ⟨z3, rfl, rfl, rfl, w3⟩ := open_int Try.underlying5 (hval' 3 _ v3 rfl rfl) h3
  have b3 : 0 ≤ z3 ∧ z3 ≤ 255 := by simpa [Lit.wf, IntKind.min, IntKind.max, IntKind.signed, IntKind.bits] using w3
  obtain ⟨a3, rfl⟩ : ∃ n : Nat, z3 = n := ⟨z3.toNat, by omega⟩
  exact walk v0 l0 a1 a2 a3 W h0 m0 y0 (by omega) (by omega) (by omega)

theorem proved : Rows.TableSharesSaid :=
  OpenClaim.holds_of_wide 12 Try.f12 rfl rfl rfl rfl rfl rfl rfl ⟨rfl, rfl, rfl, rfl, rfl⟩ rfl rfl rfl rfl rfl (by kernel_rfl) Try.func12 (by kernel_rfl)
    (of_decide_eq_true (by kernel_rfl)) (by unfold Func.isWrapper; first | (rw [if_pos (by decide +kernel)]; kernel_rfl) | (rw [if_neg (by decide +kernel)]; exact ⟨rfl, rfl⟩))
    (fun os started H enc _ => lifted os started H enc)

end Go.Proofs.Ytnelaeafjejjgaa.tableShares
