/- OrderBounds returns true for every input and changes nothing: what is above two labels is above each of them, in ascending order, and below and above, least and greatest change places when a relation is turned about, while the three properties stay. No condition. -/
import Derived.Test.YtopjhgaamjgcnaaKnw
import Derived.Test.YtopjhgaamjgcnaaArg
import Derived.Deep.CutRange
import Derived.Deep.DeepCutAuto
namespace Go.Proofs.Ytopjhgaamjgcnaa.orderBounds
open Go.RowKit Go.ChangeShapes Go.WideShapes Go.ChangeAt

theorem allB_congr {n : Nat} {p q : Nat → Bool} (h : ∀ a, a < n → p a = q a) : allB n p = allB n q := by
  rw [Bool.eq_iff_iff, allB_iff, allB_iff]
  exact ⟨fun e a ha => by rw [← h a ha]; exact e a ha, fun e a ha => by rw [h a ha]; exact e a ha⟩
theorem refl_of {n : Nat} {Z : Nat → Nat → Bool} (h1 : 1 ≤ n) (h2 : n ≤ 16) : reflB (tabOf n Z) = reflZ n Z := by
  unfold reflB
  rw [sq_tabOf h1 h2, Bool.true_and, tabOf_length]
  exact allB_congr fun a ha => atT_tabOf ha ha
theorem anti_of {n : Nat} {Z : Nat → Nat → Bool} (h1 : 1 ≤ n) (h2 : n ≤ 16) : antiB (tabOf n Z) = antiZ n Z := by
  unfold antiB
  rw [sq_tabOf h1 h2, Bool.true_and, tabOf_length]
  exact allB_congr fun a ha => allB_congr fun b hb => by rw [atT_tabOf ha (by omega), atT_tabOf (by omega) ha]
theorem trans_of {n : Nat} {Z : Nat → Nat → Bool} (h1 : 1 ≤ n) (h2 : n ≤ 16) : transB (tabOf n Z) = transZ n Z := by
  unfold transB
  rw [sq_tabOf h1 h2, Bool.true_and, tabOf_length]
  exact allB_congr fun a ha => allB_congr fun b hb => allB_congr fun c hc => by rw [atT_tabOf ha hb, atT_tabOf hb hc, atT_tabOf ha hc]
theorem anti_turn {n : Nat} {Z : Nat → Nat → Bool} : antiZ n (fun a b => Z b a) = antiZ n Z := allB_congr fun a _ => allB_congr fun b _ => by rw [Bool.and_comm]
theorem trans_turn {n : Nat} {Z : Nat → Nat → Bool} : transZ n (fun a b => Z b a) = transZ n Z := by
  have h : ∀ Z : Nat → Nat → Bool, transZ n Z = true → transZ n (fun a b => Z b a) = true := by
    intro Z h
    refine allB_iff.2 fun a ha => allB_iff.2 fun b hb => allB_iff.2 fun c hc => ?_
    have h1 := allB_iff.1 (allB_iff.1 (allB_iff.1 h c hc) b hb) a ha
    rw [Bool.and_comm (Z b a) (Z c b)]
    exact h1
  rw [Bool.eq_iff_iff]
  exact ⟨fun e => h _ e, h Z⟩
theorem upK_congr {n a b : Nat} {Z Z' : Nat → Nat → Bool} (h : ∀ c, c < n → Z a c = Z' a c ∧ Z b c = Z' b c) : upK n Z a b = upK n Z' a b := by
  unfold upK
  refine List.filter_congr fun c hc => ?_
  have := h c (by simpa using hc)
  rw [this.1, this.2]
theorem upK_swap {n a b : Nat} {Z : Nat → Nat → Bool} : upK n Z a b = upK n Z b a := by
  unfold upK
  exact List.filter_congr fun c _ => Bool.and_comm _ _
theorem upK_mem {n a b c : Nat} {Z : Nat → Nat → Bool} (h : c ∈ upK n Z a b) : c < n ∧ Z a c = true ∧ Z b c = true := by
  unfold upK at h
  obtain ⟨h1, h2⟩ := List.mem_filter.1 h
  exact ⟨by simpa using h1, by simpa using h2⟩
theorem upK_lt2 {n a b : Nat} {Z : Nat → Nat → Bool} {i j : Nat} (hi : i < (upK n Z a b).length) (hj : j < (upK n Z a b).length) (h : i < j) : (upK n Z a b)[i] < (upK n Z a b)[j] := by
  have hp : (upK n Z a b).Pairwise (· < ·) := by
    unfold upK
    exact List.Pairwise.filter _ List.pairwise_lt_range
  exact (List.pairwise_iff_getElem.1 hp) i j hi hj h
theorem inT_of {n a : Nat} {Z : Nat → Nat → Bool} (h1 : 1 ≤ n) (h2 : n ≤ 16) (ha : a < n) : inT (tabOf n Z) (a : Int) = true := by
  unfold inT
  rw [sq_tabOf h1 h2, tabOf_length, Bool.true_and]
  exact okL_iff.2 ⟨by omega, by omega⟩
theorem upper_of {n a b : Nat} {Z : Nat → Nat → Bool} (h1 : 1 ≤ n) (h2 : n ≤ 16) (ha : a < n) (hb : b < n) : upperT (tabOf n Z) a b = nats (upK n Z a b) := by
  unfold upperT
  rw [inT_of h1 h2 ha, inT_of h1 h2 hb, tabOf_length]
  simp only [Bool.and_self, if_true, Int.toNat_natCast]
  rw [upK_congr fun c hc => ⟨atT_tabOf ha hc, atT_tabOf hb hc⟩]
theorem lower_of {n a b : Nat} {Z : Nat → Nat → Bool} (h1 : 1 ≤ n) (h2 : n ≤ 16) (ha : a < n) (hb : b < n) : lowerT (tabOf n Z) a b = nats (upK n (fun x y => Z y x) a b) := by
  unfold lowerT
  rw [inT_of h1 h2 ha, inT_of h1 h2 hb, tabOf_length]
  simp only [Bool.and_self, if_true, Int.toNat_natCast]
  rw [upK_congr (Z := fun x y => atT (tabOf n Z) y x) (Z' := fun x y => Z y x) fun c hc => ⟨atT_tabOf hc ha, atT_tabOf hc hb⟩]
theorem first_congr {Z Z' : Nat → Nat → Bool} {l : List Nat} (h : ∀ a ∈ l, ∀ b ∈ l, Z a b = Z' a b) : firstZ Z l = firstZ Z' l := by
  unfold firstZ
  have hp : ∀ a ∈ l, (l.all fun b => Z a b) = l.all fun b => Z' a b := fun a ha => by
    rw [Bool.eq_iff_iff, List.all_eq_true, List.all_eq_true]
    exact ⟨fun e b hb => by rw [← h a ha b hb]; exact e b hb, fun e b hb => by rw [h a ha b hb]; exact e b hb⟩
  have hf : ∀ q : List Nat, (∀ a ∈ q, (l.all fun b => Z a b) = l.all fun b => Z' a b) → q.find? (fun a => l.all fun b => Z a b) = q.find? (fun a => l.all fun b => Z' a b) := by
    intro q
    induction q with
    | nil => intro _; rfl
    | cons x q ih =>
      intro hq
      simp only [List.find?_cons, hq x (by simp)]
      rw [ih fun a ha => hq a (by simp [ha])]
  exact hf l hp
theorem least_of {n : Nat} {Z : Nat → Nat → Bool} {l : List Nat} (h1 : 1 ≤ n) (h2 : n ≤ 16) (hl : ∀ x ∈ l, x < n) : leastT (tabOf n Z) (nats l) = firstZ Z l := by
  have hin : allIn (tabOf n Z) (nats l) = true := allIn_iff.2 ⟨by rw [tabOf_length]; exact nats_ok hl, sq_tabOf h1 h2⟩
  rw [least_yes hin]
  exact first_congr fun a ha b hb => atT_tabOf (hl a ha) (hl b hb)
theorem greatest_of {n : Nat} {Z : Nat → Nat → Bool} {l : List Nat} (h1 : 1 ≤ n) (h2 : n ≤ 16) (hl : ∀ x ∈ l, x < n) : greatestT (tabOf n Z) (nats l) = firstZ (fun a b => Z b a) l := by
  have hin : allIn (tabOf n Z) (nats l) = true := allIn_iff.2 ⟨by rw [tabOf_length]; exact nats_ok hl, sq_tabOf h1 h2⟩
  rw [greatest_yes hin]
  exact first_congr fun a ha b hb => atT_tabOf (hl b hb) (hl a ha)

set_option maxRecDepth 100000 in
set_option maxHeartbeats 8000000 in
theorem walk {lv : Value} {l : List Int} (n base x y : Nat) (w : World) (hn : n ≤ 255) (hbase : base ≤ 255) (hx : x ≤ 255) (hy : y ≤ 255) (hl : NumsV w w.heap.size lv l) :
    Calls Try.prog 4 #[.int .u8 n, .int .u8 base, lv, .int .u8 x, .int .u8 y] w fun e w' => e = .returned (.bool true) ∧ Below w.heap.size w w' := by
  have HL := Lib.hid hl; clear hl
  go_enter Try.func4, Try.ntmps4
  go_wp2_with fail
  refine (known_any w).mono ?_
  rintro e w1 ⟨rfl, hb1⟩
  have B1 := Lib.hid hb1; clear hb1
  go_wp2_with fail
  refine (table_any w1 n base hn hbase ((HL.out.below B1.out).more B1.out.size)).mono ?_
  obtain ⟨m, hm⟩ : ∃ m, n % 6 + 1 = m := ⟨_, rfl⟩
  have h1 : 1 ≤ m := by omega
  have h6 : m ≤ 6 := by omega
  rw [hm]
  clear hm HL
  rintro e w2 ⟨v, G, C, Z, rfl, hg, hb2⟩
  obtain ⟨g, c, rfl, q1, hg2, q2, q3⟩ := hg.grid h1
  clear q1 q2 q3
  have hgr := hg.to_grid rfl h1
  have HG := Lib.hid hgr; clear hgr
  have HF := Lib.hid hg.tab; clear hg
  have B2 := Lib.hid (nextB B1.out hb2); clear hb2
  go_wp2_with fail
  go_loopw [12, 13] (fun v i wr => ∃ (k : Nat) (G C : Nat → Nat), k ≤ m ∧ i = .int .i64 k ∧ FG wr w2.heap.size v m k G C (fun a b => Z b a) ∧ Below w2.heap.size w2 wr) (fun _ i _ => m - (intOf i).toNat)
  case atStart => exact ⟨0, fun _ => 0, fun _ => 0, by omega, rfl, FG.none_ _ _ _ _ _ _, Below.refl _ _⟩
  case round =>
    obtain ⟨k, G', C', hk, rfl, hg, hb⟩ := hrel
    have HT := Lib.hid hg; clear hg
    have hsz := hb.size
    have HB := Lib.hid hb; clear hb
    by_cases hlt : k < m
    · go_wp2_with fail
      obtain ⟨w3, hw3⟩ : ∃ w3 : World, w3 = wr := ⟨_, rfl⟩
      have HT1 := Lib.hid (hw3 ▸ HT.out)
      have HB1 := Lib.hid (hw3 ▸ HB.out : Below w2.heap.size w2 w3)
      have hs3 : w2.heap.size ≤ w3.heap.size := by rw [hw3]; exact hsz
      rw [← hw3]
      clear HT HB hsz hw3
      go_loopw [14, 15] (fun v i wr => ∃ j : Nat, j ≤ m ∧ i = .int .i64 j ∧ wr.ownsRow w3.heap.size 4 1 v j (bls (rowOf j (fun b => Z b k))) ∧ Below w3.heap.size w3 wr) (fun _ i _ => m - (intOf i).toNat)
      case atStart => exact ⟨0, by omega, rfl, World.ownsRow_nil _ _ _ _, Below.refl _ _⟩
      case round =>
        obtain ⟨j, hj, rfl, ho, hb⟩ := hrel
        have hsz := hb.size
        have HO := Lib.hid ho; clear ho
        have HB2 := Lib.hid hb; clear hb
        by_cases hjm : j < m
        · have HR := Lib.hid (rowOf_succ j (fun b => Z b k))
          have HGR := Lib.hid (HG.out.below (HB1.out.trans (HB2.out.mono hs3)))
          have c1 := HGR.out.top j hjm
          have c2 := HGR.out.cel j k hjm hlt
          simp only [Nat.zero_add] at c1 c2
          generalize hz : Z j k = z at *
          have HZ := Lib.hid hz; clear hz
          have HO2 := Lib.hid (HO.out.alloc (.cells #[.bool z] 4))
          go_wp2_with (at_builtin; go_must (refine wpList_append_L 28 4 _ 1 Try.underlying28 inf_bool rfl rfl _ _ rfl w3.heap.size _ _ _ rfl HO2.out (wr.heap.size + 1) _ 1 1 [.bool z] rfl rfl (lies_new wr [.bool z] 4) ?c2 ?c3 ?c4 ?c5 ?_))
          case c2 => intro u hu; simp at hu; subst hu; rfl
          case c3 => omega
          case c4 => omega
          case c5 => simp; omega
          intro v3 w4 ho3 _ hb3
          have HO3 := Lib.hid ho3; clear ho3
          have HB3 := Lib.hid ((HB2.out.trans ((below_alloc wr (.cells #[.bool z] 4)).mono hsz)).trans hb3); clear hb3
          go_wp2_with fail
          go_roundw
          case rel => exact ⟨j + 1, by omega, by go_num, by rw [HR.out]; simpa [bls, HZ.out] using HO3.out, HB3.out⟩
          case measure => simp [intOf]; omega
        · obtain rfl : j = m := by omega
          have hr2 := HT1.out.below HB2.out
          obtain ⟨gk, ck, rfl, hr3⟩ := hr2.rows.snoc hs3 (fun j hj => HT1.out.rows.lt hj) h1 HO.out
          have HR3 := Lib.hid hr3; clear hr3
          have HF2 := Lib.hid hr2; clear hr2
          have HO2 := Lib.hid (HF2.out.own.alloc (.cells #[.slice (some ⟨gk, 0, none⟩) j ck] 28))
          go_wp2_with (at_builtin; go_must (refine wpList_append_L 22 28 _ 24 Try.underlying22 inf_row rfl rfl _ _ rfl w2.heap.size _ _ _ rfl HO2.out (wr.heap.size + 1) _ 1 1 [.slice (some ⟨gk, 0, none⟩) j ck] rfl rfl (lies_new wr [.slice (some ⟨gk, 0, none⟩) j ck] 28) ?c2 ?c3 ?c4 ?c5 ?_))
          case c2 => intro u hu; simp at hu; subst hu; rfl
          case c3 => omega
          case c4 => omega
          case c5 => simp; omega
          intro v3 w4 ho3 hg3 hb3
          have HB3 := Lib.hid (((HB1.out.trans (HB2.out.mono hs3)).trans ((below_alloc wr (.cells #[.slice (some ⟨gk, 0, none⟩) j ck] 28)).mono (by omega))).trans hb3); clear hb3
          have hrow := (HR3.out.below (below_alloc wr (.cells #[.slice (some ⟨gk, 0, none⟩) j ck] 28))).grown HO2.out hg3
          have HFN : Hid (FG w4 w2.heap.size v3 j (k + 1) (fun i => if i = k then gk else G' i) (fun i => if i = k then ck else C' i) (fun a b => Z b a)) := Lib.hid ⟨by
            rw [hdrs_succ, hdrs_congr (G' := G') (C' := C') (fun i hi => by simp [show ¬ i = k by omega])]
            simpa using ho3, hrow⟩
          clear ho3 hg3 hrow
          go_wp2_with fail
          go_roundw
          case rel => exact ⟨k + 1, _, _, by omega, by go_num, HFN.out, HB3.out⟩
          case measure => simp [intOf]; omega
    · obtain rfl : k = m := by omega
      have HTT := Lib.hid HT.out.tab; clear HT
      have HFR := Lib.hid (HF.out.later HB.out)
      have BR := Lib.hid (nextB B2.out HB.out)
      have HGR := Lib.hid (HG.out.below HB.out)
      clear HF HB HG B1 B2
      obtain ⟨a, ha⟩ : ∃ a : Nat, (x : Int) % (k : Int) = a := ⟨((x : Int) % (k : Int)).toNat, by have := Int.emod_nonneg (x : Int) (show (k : Int) ≠ 0 by omega); omega⟩
      obtain ⟨b, hb⟩ : ∃ b : Nat, (y : Int) % (k : Int) = b := ⟨((y : Int) % (k : Int)).toNat, by have := Int.emod_nonneg (y : Int) (show (k : Int) ≠ 0 by omega); omega⟩
      have hak : a < k := by have := Int.emod_lt_of_pos (x : Int) (show (0 : Int) < k by omega); omega
      have hbk : b < k := by have := Int.emod_lt_of_pos (y : Int) (show (0 : Int) < k by omega); omega
      go_wp2_with fail
      go_quiet (fail)
      go_upto_region 15 with (fail)
      rw [ha, hb]
      clear ha hb
      obtain ⟨w5, hw5⟩ : ∃ w5 : World, w5 = wr.drewN nq := ⟨_, rfl⟩
      have hb5 : Below wr.heap.size wr w5 := by rw [hw5]; exact below_drewN (Below.refl _ _) _
      have hs5 : w5.heap.size = wr.heap.size := by rw [hw5]; rfl
      rw [← hw5]
      clear hw5
      have HT5 := Lib.hid (HTT.out.later hb5)
      have HF5 := Lib.hid (HFR.out.later hb5)
      have B5 := Lib.hid (nextB BR.out hb5)
      have hle : w2.heap.size ≤ wr.heap.size := hsz
      have HG5 := Lib.hid (HGR.out.below (hb5.mono hle))
      have hle5 : w2.heap.size ≤ w5.heap.size := by omega
      clear hb5 HTT HFR BR HGR hs5 hle hsz
      go_wp2_with fail
      refine (upper_any _ HF5.out).mono ?_
      rw [upper_of h1 (by omega) hak hbk]
      rintro e w6 ⟨v6, rfl, hv6, hb6⟩
      have HT6 := Lib.hid (HT5.out.later hb6)
      have HF6 := Lib.hid (HF5.out.later hb6)
      have B6 := Lib.hid (nextB B5.out hb6)
      have HG6 := Lib.hid (HG5.out.below (hb6.mono hle5))
      have hle6 : w2.heap.size ≤ w6.heap.size := Nat.le_trans hle5 hb6.size
      clear hb6 HT5 HF5 B5 HG5 hle5
      have HU := Lib.hid hv6
      obtain ⟨A6, c6, rfl, hl6⟩ := hv6
      have HL6 := Lib.hid hl6; clear hl6
      have HM := Lib.hid (fun c (h : c ∈ upK k Z a b) => upK_mem h)
      have HA := Lib.hid (fun i j hi hj h => upK_lt2 (n := k) (Z := Z) (a := a) (b := b) (i := i) (j := j) hi hj h)
      have HLN := Lib.hid (upK_length k a b Z)
      have HD := Lib.hid (show upK k Z a b = upK k Z b a from upK_swap)
      obtain ⟨u, hu⟩ : ∃ u, upK k Z a b = u := ⟨_, rfl⟩
      have HE := Lib.hid hu
      rw [hu] at HU HL6 HM HA HLN HD ⊢
      clear hu
      rw [nats_length] at HU ⊢
      obtain ⟨m, hm⟩ : ∃ m, u.length = m := ⟨_, rfl⟩
      have hmk : m ≤ k := by rw [← hm]; exact HLN.out
      have HMM := Lib.hid hm
      rw [hm] at HU ⊢
      clear hm HLN
      go_wp2_with fail
      go_loopw [19] (fun i wr => ∃ j : Nat, j ≤ m ∧ i = .int .i64 j ∧ Below w6.heap.size w6 wr ∧ ∀ q, wr.cell? q = w6.cell? q) (fun i _ => m - (intOf i).toNat)
      case atStart => exact ⟨0, by omega, rfl, Below.refl _ _, fun _ => rfl⟩
      case round =>
        clear hlt
        obtain ⟨j, hj, rfl, hb, hce⟩ := hrel
        have HB := Lib.hid hb; clear hb
        have HC := Lib.hid hce; clear hce
        by_cases hjm : j < m
        · have hju : j < u.length := by rw [HMM.out]; exact hjm
          obtain ⟨b6, o6, rfl, _, c0⟩ := lie_nat HL6.out hju
          rw [← HC.out] at c0
          obtain ⟨hck, hz1, hz2⟩ := HM.out _ (List.getElem_mem hju)
          have HPREV : Hid (0 < j → ∃ c' : Nat, wr.cell? ⟨b6, o6 + (j - 1), none⟩ = some (.int .i64 (c' : Nat)) ∧ c' < u[j]) := Lib.hid (fun h0 => by
            have hj1 : j - 1 < u.length := by omega
            obtain ⟨b7, o7, e7, _, c7⟩ := lie_nat HL6.out hj1
            injection e7 with e7; injection e7 with e71 e72 _
            subst e71 e72
            exact ⟨u[j - 1], by rw [HC.out]; exact c7, HA.out (j - 1) j hj1 hju (by omega)⟩)
          have t1 := HG6.out.top a hak
          have t2 := HG6.out.cel a u[j] hak hck
          have t3 := HG6.out.top b hbk
          have t4 := HG6.out.cel b u[j] hbk hck
          simp only [Nat.zero_add] at t1 t2 t3 t4
          rw [← HC.out] at t1 t2 t3 t4
          rw [hz1] at t2
          rw [hz2] at t4
          clear hz1 hz2
          obtain ⟨c, hc⟩ : ∃ c, u[j] = c := ⟨_, rfl⟩
          rw [hc] at c0 hck HPREV t2 t4
          clear hc
          have i1 : (0 : Int) ≤ (j : Int) ∧ (j : Int) < m := by omega
          have i2 : (0 : Int) ≤ (a : Int) ∧ (a : Int) < k := by omega
          have i3 : (0 : Int) ≤ (b : Int) ∧ (b : Int) < k := by omega
          have i4 : (0 : Int) ≤ (c : Int) ∧ (c : Int) < k := by omega
          have d1 : decide ((c : Int) < 0) = false := decide_eq_false (by omega)
          have d2 : decide ((k : Int) ≤ (c : Int)) = false := decide_eq_false (by omega)
          have d2n : decide (k ≤ c) = false := decide_eq_false (by omega)
          by_cases h0 : 0 < j
          · obtain ⟨c', hc', hlt'⟩ := HPREV.out h0
            clear HPREV
            have d3 : decide (0 < (j : Int)) = true := decide_eq_true (by omega)
            have d3n : decide (0 < j) = true := decide_eq_true (by omega)
            have d4 : decide ((c : Int) ≤ (c' : Int)) = false := decide_eq_false (by omega)
            have d4n : decide (c ≤ c') = false := decide_eq_false (by omega)
            go_wp2_with fail
            go_quiet (fail)
            go_wp2_with fail
            go_roundw
            case rel => exact ⟨j + 1, by omega, by go_num, below_drewN HB.out _, fun q => HC.out q⟩
            case measure => simp [intOf]; omega
          · have d3 : decide (0 < (j : Int)) = false := decide_eq_false (by omega)
            have d3n : decide (0 < j) = false := decide_eq_false (by omega)
            clear HPREV
            go_wp2_with fail
            go_quiet (fail)
            go_wp2_with fail
            go_roundw
            case rel => exact ⟨j + 1, by omega, by go_num, below_drewN HB.out _, fun q => HC.out q⟩
            case measure => simp [intOf]; omega
        · obtain rfl : j = m := by omega
          have HTR := Lib.hid (HT6.out.later HB.out)
          have HFR := Lib.hid (HF6.out.later HB.out)
          have BR := Lib.hid (nextB B6.out HB.out)
          have HUR := Lib.hid (HU.out.later HB.out)
          clear HT6 HF6 B6 HU HB HC HG6 HL6 HA hle6
          have hlu : ∀ x ∈ u, x < k := fun x hx => (HM.out x hx).1
          have hul : (nats u).length ≤ 1000 := by rw [nats_length, HMM.out]; omega
          have e1 : leastT (tabOf k Z) (nats u) = firstZ Z u := least_of h1 (by omega) hlu
          have e2 : greatestT (tabOf k (fun a b => Z b a)) (nats u) = firstZ Z u := greatest_of h1 (by omega) hlu
          have e3 : lowerT (tabOf k (fun a b => Z b a)) a b = nats u := by rw [lower_of h1 (by omega) hak hbk]; exact congrArg nats HE.out
          have e4 : upperT (tabOf k Z) b a = nats u := by rw [upper_of h1 (by omega) hbk hak, ← HD.out]
          have E3 := Lib.hid e3; clear e3
          have E4 := Lib.hid e4; clear e4
          have g1 := least_any wr HFR.out HUR.out hul
          rw [e1] at g1
          have G1 := Lib.hid g1; clear g1 e1
          have G2 := Lib.hid (fun w' (hb : Below wr.heap.size wr w') => e2 ▸ greatest_any w' (HTR.out.later hb) (HUR.out.later hb) hul); clear e2
          have HUL := Lib.hid hul; clear hul hlu HM HMM HE HD
          generalize firstZ Z u = o at *
          go_wp2_with fail
          refine G1.out.mono ?_
          rintro e w7 ⟨rfl, hb7⟩
          unfold ansZ
          go_wp2_with fail
          refine (G2.out w7 hb7).mono ?_
          rintro e w8 ⟨rfl, hb8⟩
          unfold ansZ
          have B8 := Lib.hid (nextB hb7 hb8)
          clear hb7 hb8 G1 G2
          have HT8 := Lib.hid (HTR.out.later B8.out)
          have HF8 := Lib.hid (HFR.out.later B8.out)
          have HU8 := Lib.hid (HUR.out.later B8.out)
          have BE8 := Lib.hid (nextB BR.out B8.out)
          clear HTR HFR HUR BR B8
          go_wp2_with fail
          refine (lower_any w8 HT8.out).mono ?_
          rw [E3.out]
          rintro e w9 ⟨v9, rfl, hv9, hb9⟩
          have B9 := Lib.hid hb9
          go_wp2_with fail
          refine (ints_any w9 (HU8.out.later hb9) hv9 HUL.out).mono ?_
          rw [show intsB (nats u) (nats u) = true from by simp [intsB]]
          rintro e w10 ⟨rfl, hb10⟩
          have B10 := Lib.hid (nextB B9.out hb10)
          clear hb9 hb10 hv9 B9
          go_wp2_with fail
          refine (upper_any w10 (HF8.out.later B10.out)).mono ?_
          rw [E4.out]
          rintro e w11 ⟨v11, rfl, hv11, hb11⟩
          have B11 := Lib.hid (nextB B10.out hb11)
          go_wp2_with fail
          refine (ints_any w11 (HU8.out.later B11.out) hv11 HUL.out).mono ?_
          rw [show intsB (nats u) (nats u) = true from by simp [intsB]]
          rintro e w12 ⟨rfl, hb12⟩
          have B12 := Lib.hid (nextB B11.out hb12)
          clear hb11 hb12 hv11 B10 B11
          have HT12 := Lib.hid (HT8.out.later B12.out)
          have HF12 := Lib.hid (HF8.out.later B12.out)
          have BE12 := Lib.hid (nextB BE8.out B12.out)
          clear HT8 HF8 HU8 BE8 B12 E3 E4 HUL
          have p1 := refl_any w12 HF12.out
          have p2 := refl_any w12 HT12.out
          have p3 := anti_any w12 HF12.out
          have p4 := anti_any w12 HT12.out
          have p5 := trans_any w12 HF12.out
          have p6 := trans_any w12 HT12.out
          rw [refl_of h1 (by omega)] at p1 p2
          rw [anti_of h1 (by omega)] at p3 p4
          rw [trans_of h1 (by omega)] at p5 p6
          rw [show reflZ k (fun a b => Z b a) = reflZ k Z from rfl] at p2
          rw [anti_turn] at p4
          rw [trans_turn] at p6
          have P1 := Lib.hid p1; clear p1
          have P2 := Lib.hid p2; clear p2
          have P3 := Lib.hid p3; clear p3
          have P4 := Lib.hid p4; clear p4
          have P5 := Lib.hid p5; clear p5
          have P6 := Lib.hid p6; clear p6
          generalize reflZ k Z = r1 at *
          generalize antiZ k Z = r2 at *
          generalize transZ k Z = r3 at *
          go_wp2_with fail
          refine P1.out.mono ?_
          rintro e w' ⟨rfl, rfl⟩
          go_wp2_with fail
          refine P2.out.mono ?_
          rintro e w' ⟨rfl, rfl⟩
          go_wp2_with fail
          refine P3.out.mono ?_
          rintro e w' ⟨rfl, rfl⟩
          go_wp2_with fail
          refine P4.out.mono ?_
          rintro e w' ⟨rfl, rfl⟩
          go_wp2_with fail
          refine P5.out.mono ?_
          rintro e w' ⟨rfl, rfl⟩
          go_wp2_with fail
          refine P6.out.mono ?_
          rintro e w' ⟨rfl, rfl⟩
          go_wp2_with fail
          go_ret
          exact ⟨rfl, BE12.out⟩

set_option maxRecDepth 100000 in
theorem lifted (os : Os) (started : os.Started) (H : Type) (enc : TypeId × Value → H) :
    ReturnsInHanded {} Try.checked os 4 .any (Rows.orderBoundsSpec.pre6 enc Try.prog Try.f4 Rows.orderBoundsRow.domain false) (Rows.orderBoundsSpec.post enc Try.prog Try.f4 false true false false) := by
  refine returnsInHanded_of_change (C := Try.checked) ownKnobs started (by kernel_rfl) Try.func4
    (ChangeSpec.witness6 (enc := enc) (C := Try.checked) false ⟨#[], #[.int .u8 0, .int .u8 0, .slice none 0 0, .int .u8 0, .int .u8 0], []⟩ 8 (by kernel_rfl) (by kernel_rfl) (by kernel_rfl) (by kernel_rfl)) ?_
  intro W base args ds gs before hval hW _ _
  refine law_contract rfl rfl (fun ds h => by match ds, h with | [d1, d2, d3, d4, d5], _ => rfl) (by decide +kernel) hW ?_
  obtain ⟨p, q, hA0, _⟩ := hW
  have hA : DataW.TrodAll enc Try.prog W 0 (fun _ => true) true Try.f4.params.toList args.toList ds p := hA0
  have hval' : ∀ (j : Nat) t v, Try.f4.params[j]? = some t → args[j]? = some v → Value.okWide Try.prog W .any base t v := hval
  rw [Try.params4] at hA hval'
  obtain ⟨v0, vs0, d0, ds0, p0, q0, hargs, rfl, rfl, h0, r0⟩ := trodAll_cons hA
  obtain ⟨v1, vs1, d1, ds1, p1, q1, rfl, rfl, rfl, h1, r1⟩ := trodAll_cons r0
  obtain ⟨v2, vs2, d2, ds2, p2, q2, rfl, rfl, rfl, h2, r2⟩ := trodAll_cons r1
  obtain ⟨v3, vs3, d3, ds3, p3, q3, rfl, rfl, rfl, h3, r3⟩ := trodAll_cons r2
  obtain ⟨v4, vs4, d4, ds4, p4, q4, rfl, rfl, rfl, h4, r4⟩ := trodAll_cons r3
  obtain ⟨rfl, rfl, rfl⟩ := trodAll_nil r4
  obtain rfl : args = #[v0, v1, v2, v3, v4] := by cases args; simp_all
  obtain ⟨a0, rfl, rfl, rfl, w0⟩ := open_int Try.underlying5 (hval' 0 _ v0 rfl rfl) h0
  obtain ⟨a1, rfl, rfl, rfl, w1⟩ := open_int Try.underlying5 (hval' 1 _ v1 rfl rfl) h1
  obtain ⟨l, hl⟩ := open_nums (hval' 2 _ v2 rfl rfl) h2
  obtain ⟨a3, rfl, rfl, rfl, w3⟩ := open_int Try.underlying5 (hval' 3 _ v3 rfl rfl) h3
  obtain ⟨a4, rfl, rfl, rfl, w4⟩ := open_int Try.underlying5 (hval' 4 _ v4 rfl rfl) h4
  have b0 : 0 ≤ a0 ∧ a0 ≤ 255 := by simpa [Lit.wf, IntKind.min, IntKind.max, IntKind.signed, IntKind.bits] using w0
  have b1 : 0 ≤ a1 ∧ a1 ≤ 255 := by simpa [Lit.wf, IntKind.min, IntKind.max, IntKind.signed, IntKind.bits] using w1
  have b3 : 0 ≤ a3 ∧ a3 ≤ 255 := by simpa [Lit.wf, IntKind.min, IntKind.max, IntKind.signed, IntKind.bits] using w3
  have b4 : 0 ≤ a4 ∧ a4 ≤ 255 := by simpa [Lit.wf, IntKind.min, IntKind.max, IntKind.signed, IntKind.bits] using w4
  obtain ⟨n, rfl⟩ : ∃ n : Nat, a0 = n := ⟨a0.toNat, by omega⟩
  obtain ⟨bs, rfl⟩ : ∃ n : Nat, a1 = n := ⟨a1.toNat, by omega⟩
  obtain ⟨x, rfl⟩ : ∃ n : Nat, a3 = n := ⟨a3.toNat, by omega⟩
  obtain ⟨y, rfl⟩ : ∃ n : Nat, a4 = n := ⟨a4.toNat, by omega⟩
  exact walk n bs x y W (by omega) (by omega) (by omega) (by omega) hl

theorem proved : Rows.OrderBoundsSaid :=
  OpenClaim.holds_of_wide 4 Try.f4 rfl rfl rfl rfl rfl rfl rfl ⟨rfl, rfl, rfl, rfl, rfl⟩ rfl rfl rfl rfl rfl (by kernel_rfl) Try.func4 (by kernel_rfl)
    (of_decide_eq_true (by kernel_rfl)) (by unfold Func.isWrapper; first | (rw [if_pos (by decide +kernel)]; kernel_rfl) | (rw [if_neg (by decide +kernel)]; exact ⟨rfl, rfl⟩))
    (fun os started H enc _ => lifted os started H enc)

end Go.Proofs.Ytopjhgaamjgcnaa.orderBounds
