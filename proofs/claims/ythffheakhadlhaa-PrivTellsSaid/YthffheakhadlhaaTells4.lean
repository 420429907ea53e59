/- PrivTells returns true for every input and changes nothing: Right, Has, Of and List answer as the document says, for any numbers and any list. No condition. -/
import Derived.Test.YthffheakhadlhaaKnown4
import Derived.Test.YthffheakhadlhaaArgI
import Derived.Test.YthffheakhadlhaaInts
namespace Go.Proofs.Ythffheakhadlhaa.privTells
open Go.RowKit Go.ChangeShapes Go.WideShapes Go.ChangeAt

theorem intsB_self (l : List Int) : intsB l l = true := by simp [intsB]
/-- The numbers of l, each of it the last five bits. -/
def lowL (l : List Int) : List Int := l.map fun x => bits .and .i64 x 31
theorem lowL_length (l : List Int) : (lowL l).length = l.length := by simp [lowL]
theorem lowL_take {l : List Int} {k : Nat} (hk : k < l.length) : lowL (l.take (k + 1)) = lowL (l.take k) ++ [bits .and .i64 l[k] 31] := by
  unfold lowL; rw [List.take_succ_eq_append_getElem hk, List.map_append]; rfl
theorem low16 {p : Nat} (hp : p < 4294967296) : bits .and .u32 (p : Int) 65535 = ((p % 65536 : Nat) : Int) := by
  have h := u32_and_nat p 65535 hp (by omega)
  rw [nat_mask16] at h
  exact h
theorem refOf_lit {B : Nat} {lv : Value} {l : List Int} (p : Nat) (w : World) (hl : IntsV w B lv l) (hm : l.length ≤ 1000) (hp : ofS l = p) :
    Calls Try.prog 11 #[lv] w fun e w' => e = .returned (.int .u32 (p : Nat)) ∧ w = w' := by
  subst hp; exact refOf_any w hl hm
theorem ints_own' {w : World} {base : Nat} {v : Value} {l : List Int} (h : w.ownsRow base 3 1 v l.length (i64s l)) : IntsV w w.heap.size v l := by
  obtain ⟨A, c, rfl, _, _, _, hl, _⟩ := Lies.of_own h
  exact ⟨A, c, rfl, hl⟩

set_option maxRecDepth 100000 in
set_option maxHeartbeats 8000000 in
theorem walk {lv : Value} {l : List Int} (p n : Nat) (w : World) (hp : p < 4294967296) (hn : n < 4294967296) (hl : IntsV w w.heap.size lv l) (hm : l.length ≤ maxLen) :
    Calls Try.prog 3 #[.int .u32 p, .int .u32 n, lv] w fun e w' => e = .returned (.bool true) ∧ Below w.heap.size w w' := by
  obtain ⟨A, c, rfl, hL⟩ := hl
  have HL := Lib.hid hL; clear hL
  obtain ⟨m, hml⟩ : ∃ m, l.length = m := ⟨_, rfl⟩
  unfold maxLen at hm
  rw [hml] at hm ⊢
  have HM := Lib.hid hml; clear hml
  go_enter Try.func3, Try.ntmps3
  go_wp2_with fail
  refine (known_any w).mono ?_
  rintro e w1 ⟨rfl, hb⟩
  have HL1 := Lib.hid ((HL.out.below hb).more hb.size)
  have B1 := Lib.hid hb; clear hb
  by_cases h30 : 30 < m
  · have d1 : decide ((30 : Int) < (m : Int)) = true := by simp; omega
    go_wp2_with fail
    go_ret
    exact ⟨rfl, B1.out⟩
  have d1 : decide ((30 : Int) < (m : Int)) = false := by simp; omega
  clear HL
  go_wp2_with fail
  go_loopw [7, 8] (fun v i wr => ∃ k : Nat, k ≤ m ∧ i = .int .i64 k ∧ wr.ownsRow w1.heap.size 3 1 v (lowL (l.take k)).length (i64s (lowL (l.take k))) ∧ Below w1.heap.size w1 wr) (fun _ i _ => m - (intOf i).toNat)
  case atStart => exact ⟨0, by omega, rfl, World.ownsRow_nil _ _ _ _, Below.refl _ _⟩
  case round =>
    obtain ⟨k, hk, rfl, ho, hb⟩ := hrel
    have hsz := hb.size
    have HO := Lib.hid ho; clear ho
    have HB := Lib.hid hb; clear hb
    by_cases hlt : k < m
    · have hkl : k < l.length := by rw [HM.out]; exact hlt
      have hlen : (lowL (l.take k)).length = k := by rw [lowL_length, List.length_take]; omega
      have HN := Lib.hid (lowL_take hkl)
      obtain ⟨b, off, rfl, hbl, c1⟩ := lie_int (HL1.out.below HB.out) hkl
      obtain ⟨x, hx⟩ : ∃ x, bits .and .i64 l[k] 31 = x := ⟨_, rfl⟩
      rw [hx] at HN
      generalize l[k] = y at *
      have HO2 := Lib.hid (HO.out.alloc (.cells #[.int .i64 x] 3))
      have d4 : decide ((k : Int) < (m : Int)) = true := by simp; omega
      go_wp2_with (at_builtin; go_must (refine wpList_append_L 23 3 _ 8 Try.underlying23 inf_int rfl rfl _ _ rfl w1.heap.size _ _ _ rfl HO2.out (wr.heap.size + 1) _ 1 1 [.int .i64 x] rfl rfl (lies_new wr [.int .i64 x] 3) ?c2 ?c3 ?c4 ?c5 ?_))
      case c2 => intro u hu; simp at hu; subst hu; rfl
      case c3 => omega
      case c4 => omega
      case c5 => simp; omega
      intro v3 w3 ho3 _ hb3
      have HO3 := Lib.hid ho3; clear ho3
      have HB3 := Lib.hid ((HB.out.trans ((below_alloc wr (.cells #[.int .i64 x] 3)).mono hsz)).trans hb3); clear hb3
      clear d4
      go_wp2_with fail
      go_roundw
      case rel => exact ⟨k + 1, by omega, by go_num, by rw [HN.out]; simpa [i64s, hlen] using HO3.out, HB3.out⟩
      case measure => simp [intOf]; omega
    · obtain rfl : k = m := by omega
      have hte : l.take k = l := by rw [← HM.out, List.take_length]
      have hlow : (lowL l).length = k := by rw [lowL_length, HM.out]
      have hv := HO.out
      rw [hte] at hv
      obtain ⟨A7, c7, rfl, hL7⟩ := ints_own' hv
      rw [hlow]
      have HV := Lib.hid (show IntsV wr wr.heap.size (.slice A7 k c7) (lowL l) from ⟨A7, c7, by rw [hlow], hL7⟩)
      have HLV := Lib.hid (show IntsV wr wr.heap.size (.slice A k c) l from ⟨A, c, by rw [HM.out], (HL1.out.below HB.out).more hsz⟩)
      have BR := Lib.hid (nextB B1.out HB.out)
      have hlm : (lowL l).length ≤ 1000 := by rw [hlow]; omega
      have hll : l.length ≤ 1000 := by rw [HM.out]; omega
      obtain ⟨q, hq⟩ : ∃ q, ofS l = q := ⟨_, rfl⟩
      obtain ⟨r, hr⟩ : ∃ r, ofS (lowL l) = r := ⟨_, rfl⟩
      obtain ⟨z, hz⟩ : ∃ z, hasB p n = z := ⟨_, rfl⟩
      obtain ⟨s, hs⟩ : ∃ s, decide (p < 65536) = s := ⟨_, rfl⟩
      obtain ⟨np, hnp⟩ : ∃ np, np = n &&& p := ⟨_, rfl⟩
      have onp : bits .and .u32 (n : Int) (p : Int) = (np : Int) := by rw [hnp]; exact u32_and_nat n p hn hp
      have lnp : np < 4294967296 := by rw [hnp]; exact Nat.lt_of_le_of_lt Nat.and_le_left hn
      obtain ⟨pl, hpl⟩ : ∃ pl : Nat, p % 65536 = pl := ⟨_, rfl⟩
      have opl : bits .and .u32 (p : Int) 65535 = (pl : Int) := by rw [← hpl]; exact low16 hp
      have Q1 := Lib.hid (of_lit q wr HLV.out hll hq)
      have Q2 := Lib.hid (refOf_lit q wr HLV.out hll hq)
      have Q3 := Lib.hid (of_lit r wr HV.out hlm hr)
      have Q4 := Lib.hid (refOf_lit r wr HV.out hlm hr)
      have Q5 := Lib.hid (right_lit p wr hp hs)
      have q6 := privs_any p wr hp
      rw [hs] at q6
      have Q6 := Lib.hid q6
      have Q7 := Lib.hid (has_lit p n wr hp hn hz)
      have q8 := refHas_any p n wr hp hn
      rw [hz] at q8
      have Q8 := Lib.hid q8
      have Q9 := Lib.hid (has_lit p np (z := true) wr hp lnp (by rw [hnp]; exact hasB_and p n))
      have HPL := Lib.hid (show ofS (nats (ones p)) = pl by rw [of_ones, hpl])
      have hol : (nats (ones p)).length ≤ 1000 := by rw [nats_length]; exact Nat.le_trans (onesK_len p 32) (by omega)
      have HOL := Lib.hid hol
      clear hte hlow hv hL7 hlm hll hq hr hz hs hnp lnp hpl q6 q8 hol
      go_wp2_with fail
      refine Q5.out.mono ?_
      rintro e w' ⟨rfl, rfl⟩
      go_wp2_with fail
      refine Q6.out.mono ?_
      rintro e w' ⟨rfl, rfl⟩
      go_wp2_with fail
      refine Q7.out.mono ?_
      rintro e w' ⟨rfl, rfl⟩
      go_wp2_with fail
      refine Q8.out.mono ?_
      rintro e w' ⟨rfl, rfl⟩
      go_wp2_with fail
      refine Q9.out.mono ?_
      rintro e w' ⟨rfl, rfl⟩
      go_wp2_with fail
      refine Q1.out.mono ?_
      rintro e w' ⟨rfl, rfl⟩
      go_wp2_with fail
      refine Q2.out.mono ?_
      rintro e w' ⟨rfl, rfl⟩
      go_wp2_with fail
      refine Q3.out.mono ?_
      rintro e w' ⟨rfl, rfl⟩
      go_wp2_with fail
      refine Q4.out.mono ?_
      rintro e w' ⟨rfl, rfl⟩
      clear Q1 Q2 Q3 Q4 Q5 Q6 Q7 Q8 Q9
      go_wp2_with fail
      refine (list_any p wr hp).mono ?_
      rintro e w3 ⟨v3, rfl, hv3, hb3⟩
      have B3 := Lib.hid (nextB BR.out hb3); clear hb3
      have HV3 := Lib.hid hv3; clear hv3
      go_wp2_with fail
      refine (refList_any p w3 hp).mono ?_
      rintro e w4 ⟨v4, rfl, hv4, hb4⟩
      have HV34 := Lib.hid (HV3.out.later hb4)
      have B4 := Lib.hid (nextB B3.out hb4); clear hb4
      have hi := ints_any w4 HV34.out hv4 HOL.out
      rw [intsB_self] at hi
      have HI := Lib.hid hi; clear hi hv4
      go_wp2_with fail
      refine HI.out.mono ?_
      rintro e w5 ⟨rfl, hb5⟩
      have B5 := Lib.hid (nextB B4.out hb5); clear hb5 HI
      go_wp2_with fail
      refine (list_any p w5 hp).mono ?_
      rintro e w6 ⟨v6, rfl, hv6, hb6⟩
      have B6 := Lib.hid (nextB B5.out hb6); clear hb6
      have HV6 := Lib.hid (of_lit pl w6 hv6 HOL.out HPL.out); clear hv6
      go_wp2_with fail
      refine HV6.out.mono ?_
      rintro e w' ⟨rfl, rfl⟩
      go_wp2_with fail
      go_ret
      exact ⟨rfl, B6.out⟩

/- The claim. -/

set_option maxRecDepth 100000 in
theorem lifted (os : Os) (started : os.Started) (H : Type) (enc : TypeId × Value → H) :
    ReturnsInHanded {} Try.checked os 3 .any (Rows.privTellsSpec.pre6 enc Try.prog Try.f3 Rows.privTellsRow.domain false) (Rows.privTellsSpec.post enc Try.prog Try.f3 false true false false) := by
  refine returnsInHanded_of_change (C := Try.checked) ownKnobs started (by kernel_rfl) Try.func3
    (ChangeSpec.witness6 (enc := enc) (C := Try.checked) false ⟨#[], #[.int .u32 0, .int .u32 0, .slice none 0 0], []⟩ 8 (by kernel_rfl) (by kernel_rfl) (by kernel_rfl) (by kernel_rfl)) ?_
  intro W base args ds gs before hval hW _ _
  refine law_contract rfl rfl (fun ds h => by match ds, h with | [d1, d2, d3], _ => rfl) (by decide +kernel) hW ?_
  obtain ⟨p, q, hA0, _⟩ := hW
  have hA : DataW.TrodAll enc Try.prog W 0 (fun _ => true) true Try.f3.params.toList args.toList ds p := hA0
  have hval' : ∀ (j : Nat) t v, Try.f3.params[j]? = some t → args[j]? = some v → Value.okWide Try.prog W .any base t v := hval
  rw [Try.params3] at hA hval'
  obtain ⟨v0, vs0, d0, ds0, p0, q0, hargs, rfl, rfl, h0, r0⟩ := trodAll_cons hA
  obtain ⟨v1, vs1, d1, ds1, p1, q1, rfl, rfl, rfl, h1, r1⟩ := trodAll_cons r0
  obtain ⟨v2, vs2, d2, ds2, p2, q2, rfl, rfl, rfl, h2, r2⟩ := trodAll_cons r1
  obtain ⟨rfl, rfl, rfl⟩ := trodAll_nil r2
  obtain rfl : args = #[v0, v1, v2] := by cases args; simp_all
  obtain ⟨z0, rfl, rfl, rfl, w0⟩ := open_int Try.underlying22 (hval' 0 _ v0 rfl rfl) h0
  have b0 : 0 ≤ z0 ∧ z0 ≤ 4294967295 := by simpa [Lit.wf, IntKind.min, IntKind.max, IntKind.signed, IntKind.bits] using w0
  obtain ⟨a0, rfl⟩ : ∃ n : Nat, z0 = n := ⟨z0.toNat, by omega⟩
  obtain ⟨z1, rfl, rfl, rfl, w1⟩ := open_int Try.underlying22 (hval' 1 _ v1 rfl rfl) h1
  have b1 : 0 ≤ z1 ∧ z1 ≤ 4294967295 := by simpa [Lit.wf, IntKind.min, IntKind.max, IntKind.signed, IntKind.bits] using w1
  obtain ⟨a1, rfl⟩ : ∃ n : Nat, z1 = n := ⟨z1.toNat, by omega⟩
  obtain ⟨l2, h2, m2, r2⟩ := open_list (hval' 2 _ v2 rfl rfl) h2
  exact walk a0 a1 W (by omega) (by omega) h2 m2

theorem proved : Rows.PrivTellsSaid :=
  OpenClaim.holds_of_wide 3 Try.f3 rfl rfl rfl rfl rfl rfl rfl ⟨rfl, rfl, rfl, rfl, rfl⟩ rfl rfl rfl rfl rfl (by kernel_rfl) Try.func3 (by kernel_rfl)
    (of_decide_eq_true (by kernel_rfl)) (by unfold Func.isWrapper; first | (rw [if_pos (by decide +kernel)]; kernel_rfl) | (rw [if_neg (by decide +kernel)]; exact ⟨rfl, rfl⟩))
    (fun os started H enc _ => lifted os started H enc)

end Go.Proofs.Ythffheakhadlhaa.privTells
