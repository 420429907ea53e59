/- InputKeeps returns true for every input and changes nothing: changing the values after New does not change the inputs, and the value after the last one does not exist. No condition. -/
import Derived.Test.YtnelaeafjejjgaaArg14
import Derived.Test.YtnelaeafjejjgaaArg10
namespace Go.Proofs.Ytnelaeafjejjgaa.inputKeeps
set_option maxRecDepth 100000
open Go.RowKit Go.ChangeShapes Go.WideShapes Go.ChangeAt

theorem lies_low {S : Nat → Prop} {w w' : World} {B lo : Nat} {A : Option Addr} {xs : List Value} (h : Lies w B A xs) (hlo : ∀ b off, A = some ⟨b, off, none⟩ → lo ≤ b) (hf : Frm S w w') (hB : B ≤ w.heap.size) (hs : ∀ k, lo ≤ k → k < B → ¬ S k) : Lies w' B A xs := fun hn => by
  obtain ⟨b, off, e, hb, hc⟩ := h hn
  exact ⟨b, off, e, hb, fun j u hu => (hf.cell (by omega) (hs b (hlo b off e) hb)).trans (hc j u hu)⟩
theorem inp_after {S : Nat → Prop} {W w w' : World} {g : Nat} {v : Value} {rs : List Rw32} (h : InK W w g v rs) (hf : Frm S w w') (hS : ∀ k, g ≤ k → ¬ S k) : InpV w' w'.heap.size g rs := by
  obtain ⟨A, c, e, _, _, _, hl, hlo⟩ := Lies.of_own h.own
  refine ⟨v, (hf.cell h.glt (hS g (Nat.le_refl _))).trans h.cell, A, c, e, (lies_low hl (fun b off e => (hlo b off e).1) hf (Nat.le_refl _) (fun k h1 _ => hS k (by omega))).more hf.size, fun r hr => ⟨(h.row r hr).1, (lies_low (lo := g) (h.row r hr).2.1 (fun b off e => by have := (h.row r hr).2.2 b off e; omega) hf (Nat.le_refl _) (fun k h1 _ => hS k h1)).more hf.size⟩⟩
/-- The cells of a list of the call's own may be stored to. -/
def Open32 (w : World) (b n : Nat) : Prop := ∀ j, j < n → (∃ y : Int, w.cell? ⟨b, j, none⟩ = some (.int .i32 y)) ∧ w.frozen? ⟨b, j, none⟩ = false
theorem Open32.set {w : World} {b n k : Nat} (h : Open32 w b n) (y : Int) : Open32 (w.setCell ⟨b, k, none⟩ (.int .i32 y)) b n := fun j hj => by
  obtain ⟨⟨z, hz⟩, hf⟩ := h j hj
  refine ⟨?_, by rw [World.frozen?_setCell]; exact hf⟩
  by_cases e : j = k
  · subst e; exact ⟨y, World.cell?_setCell_same _ _ _ hz⟩
  · exact ⟨z, (World.cell?_setCell_other _ _ _ _ (fun e2 => e (by injection e2 with _ e3 _; exact e3.symm))).trans hz⟩
theorem Open32.of {w w' : World} {b n : Nat} (h : Open32 w b n) (hb : w'.heap[b]? = w.heap[b]?) : Open32 w' b n := fun j hj => by
  obtain ⟨⟨z, hz⟩, hf⟩ := h j hj
  exact ⟨⟨z, (World.cell?_of_block (w := w) hb).trans hz⟩, (World.frozen?_of_block (w := w) hb).trans hf⟩
theorem open_of {w : World} {base : Nat} {A : Option Addr} {n c : Nat} {l : List Int} (h : Own32 w base (.slice A n c) l) (hp : 0 < l.length) : ∃ b, A = some ⟨b, 0, none⟩ ∧ base ≤ b ∧ b < w.heap.size ∧ Open32 w b l.length := by
  rcases h.2 with ⟨h1, h2⟩ | ⟨g, cap, cur, h1, hb, hg, hn, hm, _, _⟩
  · omega
  · injection h1 with e1 e2 e3
    subst e1
    refine ⟨g, rfl, hb, (Array.getElem?_eq_some_iff.1 hg).1, fun j hj => ⟨⟨l[j], ?_⟩, frozen_blk hg j⟩⟩
    have h3 := World.ownsRow.cells h (g := g) (by rw [e2, e3]; rfl) j (.int .i32 l[j]) (by simp [i32s, hj])
    have e : (⟨g, 0, none⟩ : Addr).add j = ⟨g, j, none⟩ := by unfold Addr.add; split <;> simp_all
    rw [e] at h3; exact h3

set_option maxRecDepth 100000 in
set_option maxHeartbeats 16000000 in
theorem walk (av bv : Value) (la lb : List Int) (q : Nat) (w : World) (ha : I32V w w.heap.size av la) (hma : la.length ≤ maxLen) (hb : I32V w w.heap.size bv lb) (hmb : lb.length ≤ maxLen) (hq : q ≤ 255) :
    Calls Try.prog 4 #[av, bv, .int .u8 q] w fun e w' => e = .returned (.bool true) ∧ Below w.heap.size w w' := by
  obtain ⟨A, ca, rfl, hca, hla⟩ := ha
  obtain ⟨B, cb, rfl, hcb, hlb⟩ := hb
  have HLA := Lib.hid hla; have HLB := Lib.hid hlb
  clear hla hlb
  obtain ⟨n, hn⟩ : ∃ n, la.length = n := ⟨_, rfl⟩
  obtain ⟨m, hm⟩ : ∃ m, lb.length = m := ⟨_, rfl⟩
  have HN := Lib.hid hn; have HM := Lib.hid hm
  rw [hn] at hma hca ⊢; rw [hm] at hmb hcb ⊢
  unfold maxLen at hma hmb
  clear hn hm
  by_cases h30 : 30 < n
  · go_enter Try.func4, Try.ntmps4
    go_wp2_with fail
    refine (known14_any w).mono ?_
    rintro e w1 ⟨rfl, hb1⟩
    go_wp2_with fail
    go_ret
    exact ⟨rfl, hb1⟩
  by_cases h31 : 30 < m
  · go_enter Try.func4, Try.ntmps4
    go_wp2_with fail
    refine (known14_any w).mono ?_
    rintro e w1 ⟨rfl, hb1⟩
    go_wp2_with fail
    go_ret
    exact ⟨rfl, hb1⟩
  go_enter Try.func4, Try.ntmps4
  go_wp2_with fail
  refine (known14_any w).mono ?_
  rintro e w1 ⟨rfl, hb1⟩
  have B1 := Lib.hid hb1; clear hb1
  go_wp2_with (at_builtin; go_must (refine wpList_append_L 24 21 _ 4 Try.underlying24 inf_i32 rfl rfl (.const (.slice none 0 0)) (.tmp 26) rfl w1.heap.size (.slice none 0 0) 0 [] rfl (World.ownsRow_nil _ _ _ 1) w.heap.size A n ca (i32s la) rfl (by rw [i32s_length]; exact HN.out) (HLA.out.below B1.out) (one_i32 la) ?c3 ?c4 ?c5 ?_))
  case c3 => omega
  case c4 => omega
  case c5 => exact Nat.le_refl _
  intro xv w2 hox _ hb2
  have OX : Hid (Own32 w2 w1.heap.size xv la) := Lib.hid (by unfold Own32; rw [HN.out]; simpa [i32s] using hox)
  have B2 := Lib.hid hb2
  clear hox hb2
  go_wp2_with (at_builtin; go_must (refine wpList_append_L 24 21 _ 4 Try.underlying24 inf_i32 rfl rfl (.const (.slice none 0 0)) (.tmp 28) rfl w2.heap.size (.slice none 0 0) 0 [] rfl (World.ownsRow_nil _ _ _ 1) w.heap.size B m cb (i32s lb) rfl (by rw [i32s_length]; exact HM.out) ((HLB.out.below B1.out).below (B2.out.mono B1.out.size)) (one_i32 lb) ?d3 ?d4 ?d5 ?_))
  case d3 => omega
  case d4 => omega
  case d5 => exact Nat.le_refl _
  intro yv w3 hoy _ hb3
  have OY : Hid (Own32 w3 w2.heap.size yv lb) := Lib.hid (by unfold Own32; rw [HM.out]; simpa [i32s] using hoy)
  have OX3 : Hid (Own32 w3 w1.heap.size xv la) := Lib.hid (own_below OX.out hb3)
  have B3 := Lib.hid (B2.out.trans (hb3.mono B2.out.size))
  clear hoy hb3 OX
  obtain ⟨Ax, cx, ex, hcx, _, _, hlx, hbx⟩ := Lies.of_own OX3.out
  obtain ⟨Ay, cy, ey, hcy, _, _, hly, hby⟩ := Lies.of_own OY.out
  subst ex ey
  have hpx := fun hp => open_of OX3.out hp
  rw [HN.out] at OX3 hcx hpx ⊢; rw [HM.out] at OY hcy ⊢
  obtain ⟨w4, hw4⟩ : ∃ w4, w4 = w3.alloc (.cells #[.slice Ax n cx, .slice Ay m cy] 24) := ⟨_, rfl⟩
  have hb4 : Below w3.heap.size w3 w4 := by rw [hw4]; exact below_alloc w3 _
  have HT : Hid (Tab32 w4 w4.heap.size (.slice (some ⟨w3.heap.size, 0, none⟩) 2 2) [⟨Ax, cx, la⟩, ⟨Ay, cy, lb⟩]) := Lib.hid
    ⟨_, 2, rfl, by rw [hw4]; simp only [hdrs32, List.map_cons, List.map_nil, Rw32.hdr, HN.out, HM.out]; exact (lies_new w3 [.slice Ax n cx, .slice Ay m cy] 24).more (by simp), fun r hr => by
      rcases List.mem_cons.1 hr with rfl | hr
      · exact ⟨by rw [HN.out]; exact hcx, (hlx.below hb4).more hb4.size⟩
      · obtain rfl : r = ⟨Ay, cy, lb⟩ := by simpa using hr
        exact ⟨by rw [HM.out]; exact hcy, (hly.below hb4).more hb4.size⟩⟩
  have HNEW := Lib.hid (newInput_any _ _ w4 HT.out (by simp) (fun r hr => by
    rcases List.mem_cons.1 hr with rfl | hr
    · show la.length ≤ 100000; rw [HN.out]; omega
    · obtain rfl : r = ⟨Ay, cy, lb⟩ := by simpa using hr
      show lb.length ≤ 100000; rw [HM.out]; omega))
  have HPX := Lib.hid (fun (hp : 0 < n) => hpx hp)
  have HB4 := Lib.hid hb4
  have HW4 := Lib.hid hw4
  have HS34 : Hid (w3.heap.size < w4.heap.size) := Lib.hid (by rw [hw4]; simp)
  clear hw4 hb4 hlx hly hbx hby hpx hcx hcy OY OX3
  go_wp2_with fail
  rw [← HW4.out]
  with_reducible refine HNEW.out.mono ?_
  rintro e w5 ⟨g, v, rs', rfl, hin, hls⟩
  have HIN := Lib.hid hin; have HLS : Hid (listsOf rs' = [la, lb]) := Lib.hid hls
  clear hin hls HNEW
  have HX : Hid (∃ bx, (0 < n → Ax = some ⟨bx, 0, none⟩ ∧ Open32 w5 bx n) ∧ w1.heap.size ≤ bx ∧ bx < w4.heap.size) := Lib.hid (by
    rcases Nat.eq_zero_or_pos n with h0 | h0
    · exact ⟨w3.heap.size, fun h => by omega, B3.out.size, HS34.out⟩
    · obtain ⟨b, e, h1, h2, ho⟩ := HPX.out h0
      have h3 := HS34.out
      exact ⟨b, fun _ => ⟨e, (ho.of (HB4.out.block b h2)).of (HIN.out.old.block b (by omega))⟩, h1, by omega⟩)
  obtain ⟨bx, hx, hbx1, hbx2⟩ := HX.out
  have HXX := Lib.hid hx
  have HLO : Hid (bx < g) := Lib.hid (by have := HIN.out.lo; omega)
  have B5 : Hid (Below w1.heap.size w1 w5) := Lib.hid ((B3.out.trans (HB4.out.mono B3.out.size)).trans (HIN.out.old.mono (by have := B3.out.size; have := HB4.out.size; omega)))
  have HLEN : Hid (rs'.length ≤ 100000) := Lib.hid (by have := congrArg List.length HLS.out; simp [listsOf] at this; omega)
  clear hx HX HPX hbx2 HB4 HW4 HS34 HT
  go_wp2_with fail
  go_loopw [10] (fun i wr => ∃ k : Nat, k ≤ n ∧ i = .int .i64 k ∧ (0 < n → Open32 wr bx n) ∧ Frm (One bx) w5 wr) (fun i _ => n - (intOf i).toNat)
  case atStart => exact ⟨0, Nat.zero_le _, rfl, fun h => (HXX.out h).2, Frm.refl _ _⟩
  case round =>
    obtain ⟨k, hk, rfl, ho, hf⟩ := hrel
    have HO := Lib.hid ho; have HF := Lib.hid hf
    clear ho hf
    by_cases hkn : k < n
    · obtain ⟨eA, _⟩ := HXX.out (by omega)
      subst eA
      obtain ⟨⟨y, hy⟩, hfz⟩ := HO.out (by omega) k hkn
      go_wp2_with fail
      go_roundw
      case rel => exact ⟨k + 1, by omega, by go_num, fun h => (HO.out h).set _, HF.out.then (Frm.setCell (S := One bx) (p := ⟨bx, k, none⟩) rfl _)⟩
      case measure => simp [intOf]; omega
    · obtain rfl : k = n := by omega
      obtain ⟨wo, rfl⟩ : ∃ wo : World, wo = wr := ⟨_, rfl⟩
      have HI := Lib.hid (inp_after HIN.out HF.out (fun j h1 e => by have := HLO.out; have : j = bx := e; omega))
      have BO : Hid (Below w.heap.size w wo) := Lib.hid (B1.out.trans ((B5.out.trans (HF.out.below B5.out.size (fun j _ e => by rw [show j = bx from e]; exact hbx1))).mono B1.out.size))
      have HGET := Lib.hid (fun p q w' (hb : Below wo.heap.size wo w') (hp : -9223372036854775808 ≤ p ∧ p ≤ 9223372036854775807) (hq : -2147483648 ≤ q ∧ q ≤ 2147483647) => inGet_any _ g rs' p q w' (HI.out.below hb (by have := HIN.out.glt; have := HF.out.size; omega)) hp hq HLEN.out)
      have HLN := Lib.hid (fun p w' (hb : Below wo.heap.size wo w') (hp : -9223372036854775808 ≤ p ∧ p ≤ 9223372036854775807) => inLen_any _ g rs' p w' (HI.out.below hb (by have := HIN.out.glt; have := HF.out.size; omega)) hp HLEN.out)
      rw [HLS.out] at HGET HLN
      have L0 : Hid (lenZ [la, lb] 0 = k) := Lib.hid HN.out
      have L1 : Hid (lenZ [la, lb] 1 = m) := Lib.hid HM.out
      clear hkn HO
      go_wp2_with fail
      go_loop [11] (fun i => ∃ j : Nat, j ≤ k ∧ i = .int .i64 j) (fun i => k - (intOf i).toNat)
      case atStart => exact ⟨0, Nat.zero_le _, rfl⟩
      case round =>
        obtain ⟨j, hj, rfl⟩ := hrel
        by_cases hjk : j < k
        · have hjl : j < la.length := by rw [HN.out]; exact hjk
          obtain ⟨b, off, rfl, hb, c1⟩ := lie_i32 HLA.out hjl
          have c2 : wo.cell? ⟨b, off + j, none⟩ = some (.int .i32 la[j]) := by rw [BO.out.cell (p := ⟨b, off + j, none⟩) hb, c1]
          have hv := isZ_yes (rs := [⟨none, 0, la⟩, ⟨none, 0, lb⟩]) (k := 0) (j := j) (by simp) hjl
          have G := Lib.hid (HGET.out 0 j wo (Below.refl _ _) (by decide) (by omega))
          unfold GotZ at G
          rw [show valZ [la, lb] 0 (j : Int) = la[j] from hv.2, show isZ [la, lb] 0 (j : Int) = true from hv.1] at G
          obtain ⟨x, hx⟩ : ∃ x, la[j] = x := ⟨_, rfl⟩
          rw [hx] at c2 G
          have e1 : (x != x) = false := by simp
          have hw : IntKind.i32.wrap (j : Int) = (j : Int) := by simp [IntKind.wrap, IntKind.bits, IntKind.signed]; omega
          clear hv hx c1
          go_wp2_with fail
          refine G.out.mono ?_
          rintro e w' ⟨rfl, rfl⟩
          go_wp2_with fail
          go_round
          case rel => exact ⟨j + 1, by omega, by go_num⟩
          case measure => simp [intOf]; omega
        · obtain rfl : j = k := by omega
          obtain ⟨w6, hw6⟩ : ∃ w6, w6 = wo.alloc (.cells #[.int .i64 j, .int .i64 m] 3) := ⟨_, rfl⟩
          have c0 : w6.cell? ⟨wo.heap.size, 0, none⟩ = some (.int .i64 j) := by rw [hw6, cell_blk (heap_alloc_new wo _)]; rfl
          have c1 : w6.cell? ⟨wo.heap.size, 1, none⟩ = some (.int .i64 m) := by rw [hw6, cell_blk (heap_alloc_new wo _)]; rfl
          have B6 : Hid (Below wo.heap.size wo w6) := Lib.hid (by rw [hw6]; exact below_alloc wo _)
          have HW6 := Lib.hid hw6
          have G0 := Lib.hid (HGET.out 0 j w6 B6.out (by decide) (by omega))
          have G1 := Lib.hid (HGET.out 1 m w6 B6.out (by decide) (by omega))
          unfold GotZ at G0 G1
          have n0 := isZ_no (Ls := [la, lb]) (p := 0) (q := (j : Int)) (.inr (by rw [L0.out]; exact Int.le_refl _))
          have n1 := isZ_no (Ls := [la, lb]) (p := 1) (q := (m : Int)) (.inr (by rw [L1.out]; exact Int.le_refl _))
          rw [n0.1, n0.2] at G0
          rw [n1.1, n1.2] at G1
          have K0 := Lib.hid (HLN.out 0 w6 B6.out (by decide))
          have K1 := Lib.hid (HLN.out 1 w6 B6.out (by decide))
          rw [L0.out] at K0
          rw [L1.out] at K1
          have w0 : IntKind.i32.wrap (j : Int) = (j : Int) := by simp [IntKind.wrap, IntKind.bits, IntKind.signed]; omega
          have wm : IntKind.i32.wrap (m : Int) = (m : Int) := by simp [IntKind.wrap, IntKind.bits, IntKind.signed]; omega
          have e0 : ((j : Int) == (j : Int)) = true := beq_self_eq_true _
          have e1 : ((m : Int) == (m : Int)) = true := beq_self_eq_true _
          clear n0 n1 hw6 hjk
          rcases (by omega : (q : Int) % 2 = 0 ∨ (q : Int) % 2 = 1) with hq2 | hq2
          · go_wp2_with fail
            rw [← HW6.out]
            go_wp2_with fail
            refine G0.out.mono ?_
            rintro e w' ⟨rfl, rfl⟩
            go_wp2_with fail
            refine K0.out.mono ?_
            rintro e w' ⟨rfl, rfl⟩
            go_wp2_with fail
            refine K1.out.mono ?_
            rintro e w' ⟨rfl, rfl⟩
            go_wp2_with fail
            go_ret
            exact ⟨rfl, BO.out.trans (B6.out.mono BO.out.size)⟩
          · go_wp2_with fail
            rw [← HW6.out]
            go_wp2_with fail
            refine G1.out.mono ?_
            rintro e w' ⟨rfl, rfl⟩
            go_wp2_with fail
            refine K0.out.mono ?_
            rintro e w' ⟨rfl, rfl⟩
            go_wp2_with fail
            refine K1.out.mono ?_
            rintro e w' ⟨rfl, rfl⟩
            go_wp2_with fail
            go_ret
            exact ⟨rfl, BO.out.trans (B6.out.mono BO.out.size)⟩

/- The claim. -/

set_option maxRecDepth 100000 in
theorem lifted (os : Os) (started : os.Started) (H : Type) (enc : TypeId × Value → H) :
    ReturnsInHanded {} Try.checked os 4 .any (Rows.inputKeepsSpec.pre6 enc Try.prog Try.f4 Rows.inputKeepsRow.domain false) (Rows.inputKeepsSpec.post enc Try.prog Try.f4 false true false false) := by
  refine returnsInHanded_of_change (C := Try.checked) ownKnobs started (by kernel_rfl) Try.func4
    (ChangeSpec.witness6 (enc := enc) (C := Try.checked) false ⟨#[], #[.slice none 0 0, .slice none 0 0, .int .u8 0], []⟩ 8 (by kernel_rfl) (by kernel_rfl) (by kernel_rfl) (by kernel_rfl)) ?_
  intro W base args ds gs before hval hW _ _
  refine law_contract rfl rfl (fun ds h => by match ds, h with | [d1, d2, d3], _ => rfl) (by decide +kernel) hW ?_
  obtain ⟨p, q, hA0, _⟩ := hW
  have hA : DataW.TrodAll enc Try.prog W 0 (fun _ => true) true Try.f4.params.toList args.toList ds p := hA0
  have hval' : ∀ (j : Nat) t v, Try.f4.params[j]? = some t → args[j]? = some v → Value.okWide Try.prog W .any base t v := hval
  rw [Try.params4] at hA hval'
  obtain ⟨v0, vs0, d0, ds0, p0, q0, hargs, rfl, rfl, h0, r0⟩ := trodAll_cons hA
  obtain ⟨v1, vs1, d1, ds1, p1, q1, rfl, rfl, rfl, h1, r1⟩ := trodAll_cons r0
  obtain ⟨v2, vs2, d2, ds2, p2, q2, rfl, rfl, rfl, h2, r2⟩ := trodAll_cons r1
  obtain ⟨rfl, rfl, rfl⟩ := trodAll_nil r2
  obtain rfl : args = #[v0, v1, v2] := by cases args; simp_all
  obtain ⟨l0, y0, m0, x0⟩ := open_i32s (hval' 0 _ v0 rfl rfl) h0
  obtain ⟨l1, y1, m1, x1⟩ := open_i32s (hval' 1 _ v1 rfl rfl) h1
  obtain ⟨z2, rfl, rfl, rfl, w2⟩ := open_int Try.underlying5 (hval' 2 _ v2 rfl rfl) h2
  have b2 : 0 ≤ z2 ∧ z2 ≤ 255 := by simpa [Lit.wf, IntKind.min, IntKind.max, IntKind.signed, IntKind.bits] using w2
  obtain ⟨a2, rfl⟩ : ∃ n : Nat, z2 = n := ⟨z2.toNat, by omega⟩
  exact walk v0 v1 l0 l1 a2 W y0 m0 y1 m1 (by omega)

theorem proved : Rows.InputKeepsSaid :=
  OpenClaim.holds_of_wide 4 Try.f4 rfl rfl rfl rfl rfl rfl rfl ⟨rfl, rfl, rfl, rfl, rfl⟩ rfl rfl rfl rfl rfl (by kernel_rfl) Try.func4 (by kernel_rfl)
    (of_decide_eq_true (by kernel_rfl)) (by unfold Func.isWrapper; first | (rw [if_pos (by decide +kernel)]; kernel_rfl) | (rw [if_neg (by decide +kernel)]; exact ⟨rfl, rfl⟩))
    (fun os started H enc _ => lifted os started H enc)

end Go.Proofs.Ytnelaeafjejjgaa.inputKeeps
