/- OrderSquares returns true for every input and changes nothing: a table is square exactly if it has 1 to 16 rows, each as long as their number, and no other table has any of the three properties. No condition. -/
import Derived.Test.YtopjhgaamjgcnaaTabL
import Derived.Test.YtopjhgaamjgcnaaArg
import Derived.Deep.CutRange
import Derived.Deep.DeepCutAuto
namespace Go.Proofs.Ytopjhgaamjgcnaa.orderSquares
open Go.RowKit Go.ChangeShapes Go.WideShapes Go.ChangeAt

def u8s (l : List Int) : List Value := l.map (Value.int .u8)
theorem lie_u8 {w : World} {B : Nat} {A : Option Addr} {l : List Int} (h : Lies w B A (u8s l)) {k : Nat} (hk : k < l.length) :
    ∃ b off, A = some ⟨b, off, none⟩ ∧ b < B ∧ w.cell? ⟨b, off + k, none⟩ = some (.int .u8 l[k]) := by
  obtain ⟨b, off, e, hb, hc⟩ := h.cell (k := k) (by simpa [u8s] using hk)
  exact ⟨b, off, e, hb, by rw [hc]; simp [u8s]⟩

theorem sq_step_no {m : Nat} {rs : List Rw} {r : Rw} {P : Prop} (h : false = true ↔ P ∧ ∀ r ∈ rs, r.l.length = m) : (false = true ↔ P ∧ ∀ x ∈ rs ++ [r], x.l.length = m) :=
  ⟨fun e => by (cases e), fun e => h.2 ⟨e.1, fun x hx => e.2 x (List.mem_append.2 (.inl hx))⟩⟩
theorem sq_step_yes {m y : Nat} {A : Option Addr} {c : Nat} {rs : List Rw} {P : Prop} (h : true = true ↔ P ∧ ∀ r ∈ rs, r.l.length = m) (hy : y = m) : (true = true ↔ P ∧ ∀ x ∈ rs ++ [(⟨A, c, List.replicate y false⟩ : Rw)], x.l.length = m) := by
  obtain ⟨h1, h2⟩ := h.1 rfl
  refine ⟨fun _ => ⟨h1, fun x hx => ?_⟩, fun _ => rfl⟩
  rcases List.mem_append.1 hx with hx | hx
  · exact h2 x hx
  · simp at hx; subst hx; simpa using hy
theorem sq_step_ne {m y : Nat} {A : Option Addr} {c : Nat} {rs : List Rw} {P : Prop} (hy : ¬ y = m) : (false = true ↔ P ∧ ∀ x ∈ rs ++ [(⟨A, c, List.replicate y false⟩ : Rw)], x.l.length = m) :=
  ⟨fun e => by (cases e), fun e => absurd (by simpa using e.2 ⟨A, c, List.replicate y false⟩ (by simp)) hy⟩
theorem sq_is {m : Nat} {q : Bool} {rs : List Rw} (hr : rs.length = m) (h : q = true ↔ (1 ≤ m ∧ m ≤ 16) ∧ ∀ r ∈ rs, r.l.length = m) : sqB (rowsOf rs) = q := by
  subst hr
  rw [Bool.eq_iff_iff, sqB_iff, h]
  simp [rowsOf, and_assoc]
theorem sq_even {d : Nat} {rs : List Rw} (hr : rs.length = d) (h : ∀ r ∈ rs, r.l.length = d) : sqB (rowsOf rs) = decide (1 ≤ d ∧ d ≤ 16) := by
  rw [Bool.eq_iff_iff, sqB_iff, decide_eq_true_iff]
  subst hr
  simp only [rowsOf, List.length_map, List.mem_map, forall_exists_index, and_imp, forall_apply_eq_imp_iff₂]
  exact ⟨fun e => ⟨e.1, e.2.1⟩, fun e => ⟨e.1, e.2, h⟩⟩
theorem all_app {d : Nat} {A : Option Addr} {c : Nat} {rs : List Rw} (h : ∀ r ∈ rs, r.l.length = d) : ∀ r ∈ rs ++ [(⟨A, c, List.replicate d false⟩ : Rw)], r.l.length = d := by
  intro x hx
  rcases List.mem_append.1 hx with hx | hx
  · exact h x hx
  · simp at hx; subst hx; simp
theorem trans_not {T : List (List Bool)} (h : sqB T = false) : transB T = false := by simp [transB, h]
theorem refl_not {T : List (List Bool)} (h : sqB T = false) : reflB T = false := by simp [reflB, h]
theorem anti_not {T : List (List Bool)} (h : sqB T = false) : antiB T = false := by simp [antiB, h]

set_option maxHeartbeats 8000000 in
theorem walk (A : Option Addr) (c n : Nat) (l : List Int) (w : World) (hn : n ≤ 255) (hm : l.length ≤ maxLen) (hl : Lies w w.heap.size A (u8s l)) (hx : ∀ x ∈ l, 0 ≤ x ∧ x ≤ 255) :
    Calls Try.prog 5 #[.slice A l.length c, .int .u8 n] w fun e w' => e = .returned (.bool true) ∧ Below w.heap.size w w' := by
  unfold maxLen at hm
  have HL := Lib.hid hl; clear hl
  have HX := Lib.hid hx; clear hx
  generalize hln : l.length = m at *
  have HM := Lib.hid hln; clear hln
  by_cases hbig : 20 < m
  · have d1 : decide (20 < (m : Int)) = true := by simp; omega
    go_enter Try.func5, Try.ntmps5
    go_wp2_with fail
    refine (known_any w).mono ?_
    rintro e w1 ⟨rfl, B1⟩
    go_wp2_with fail
    go_ret
    exact ⟨rfl, B1⟩
  · have d1 : decide (20 < (m : Int)) = false := by simp; omega
    go_enter Try.func5, Try.ntmps5
    go_wp2_with fail
    refine (known_any w).mono ?_
    rintro e w1 ⟨rfl, B1⟩
    have HB1 := Lib.hid B1; clear B1
    go_upto_region 6 with (fail)
    go_cut [7] from 16 to 23 (fun s wx => ∃ ok : Bool, s = .bool ok ∧ (ok = true ↔ 1 ≤ m ∧ m ≤ 16) ∧ Below w.heap.size w wx)
    case first =>
      by_cases h0 : 1 ≤ m
      · have d2 : decide (1 ≤ (m : Int)) = true := by simp; omega
        go_wp2_with fail
        go_meet
        exact ⟨_, rfl, by simp; omega, HB1.out⟩
      · have d2 : decide (1 ≤ (m : Int)) = false := by simp; omega
        go_wp2_with fail
        go_meet
        exact ⟨_, rfl, by simp; omega, HB1.out⟩
    case rest =>
      obtain ⟨ok, rfl, hok, hb⟩ := hcut
      have HOK := Lib.hid hok; clear hok
      have HB := Lib.hid hb; clear hb HB1
      go_wp2_with fail
      go_loopw [5, 7, 8] (fun v s i wr => ∃ (k : Nat) (q : Bool) (rs : List Rw), k ≤ m ∧ i = .int .i64 k ∧ rs.length = k ∧ s = .bool q ∧ (q = true ↔ (1 ≤ m ∧ m ≤ 16) ∧ ∀ r ∈ rs, r.l.length = m) ∧ TabL wr w.heap.size v k rs ∧ Below w.heap.size w wr) (fun _ _ i _ => m - (intOf i).toNat)
      case atStart => exact ⟨0, ok, [], by omega, rfl, rfl, rfl, by rw [HOK.out]; simp, TabL.none_ _ _, HB.out⟩
      case round =>
        clear HOK HB
        obtain ⟨k, q, rs, hk, rfl, hrs, rfl, hq, ht, hb⟩ := hrel
        have HRS := Lib.hid hrs; clear hrs
        have HQ := Lib.hid hq; clear hq
        have HT := Lib.hid ht; clear ht
        have hsz := hb.size
        have HB := Lib.hid hb; clear hb
        by_cases hkm : k < m
        · have hkl : k < l.length := by rw [HM.out]; exact hkm
          obtain ⟨b, o, rfl, hbb, c1⟩ := lie_u8 HL.out hkl
          have hxr := HX.out l[k] (List.getElem_mem hkl)
          have c2 : wr.cell? ⟨b, o + k, none⟩ = some (.int .u8 l[k]) := by rw [HB.out.cell (p := ⟨b, o + k, none⟩) hbb]; exact c1
          clear c1
          generalize l[k] = x at *
          obtain ⟨y, hy⟩ : ∃ y : Nat, (m : Int) + x % 8 / 7 = y := ⟨((m : Int) + x % 8 / 7).toNat, by omega⟩
          have hy1 : 1 ≤ y := by omega
          have hy2 : y ≤ 21 := by omega
          have hmk := fun w => run_make_bools w y (by omega)
          have HO2 := Lib.hid ((HT.out.own.alloc (.cells (falses y) 4)).alloc (.cells #[.slice (some ⟨wr.heap.size, 0, none⟩) y y] 28))
          go_wp2_with (at_builtin; go_must (refine wpList_append_L 22 28 _ 24 Try.underlying22 inf_row rfl rfl _ _ rfl w.heap.size _ _ _ rfl HO2.out (wr.heap.size + 1 + 1) _ 1 1 [.slice (some ⟨wr.heap.size, 0, none⟩) y y] rfl rfl ?c1 ?c2 ?c3 ?c4 ?c5 ?_))
          case c1 => have := lies_new (wr.alloc (.cells (falses y) 4)) [.slice (some ⟨wr.heap.size, 0, none⟩) y y] 28; simpa using this
          case c2 => intro u hu; simp at hu; subst hu; rfl
          case c3 => omega
          case c4 => omega
          case c5 => simp; omega
          intro v3 w3 ho3 hg3 hb3
          have B2 := Lib.hid ((below_alloc wr (.cells (falses y) 4)).trans ((below_alloc _ (.cells #[.slice (some ⟨wr.heap.size, 0, none⟩) y y] 28)).mono (by simp)))
          have B3 := Lib.hid ((HB.out.trans (B2.out.mono hsz)).trans hb3)
          have HOW := Lib.hid ((own_made (w := wr) (y := y) hsz).below (below_alloc _ (.cells #[.slice (some ⟨wr.heap.size, 0, none⟩) y y] 28)))
          have HTN := Lib.hid ((HT.out.below B2.out).snoc (r := ⟨some ⟨wr.heap.size, 0, none⟩, y, List.replicate y false⟩) (by simpa [Rw.hdr] using ho3) hg3 HOW.out)
          clear ho3 hg3 hb3 hmk
          cases q with
          | false =>
            go_wp2_with fail
            go_roundw
            case rel => exact ⟨k + 1, false, _, by omega, by go_num, by rw [List.length_append, HRS.out]; rfl, rfl, sq_step_no HQ.out, HTN.out, B3.out⟩
            case measure => simp [intOf]; omega
          | true =>
            by_cases he : y = m
            · have e1 : ((y : Int) == (m : Int)) = true := by simp; omega
              have HE := Lib.hid he; clear he
              go_wp2_with fail
              go_roundw
              case rel => exact ⟨k + 1, true, _, by omega, by go_num, by rw [List.length_append, HRS.out]; rfl, rfl, sq_step_yes HQ.out HE.out, HTN.out, B3.out⟩
              case measure => simp [intOf]; omega
            · have e1 : ((y : Int) == (m : Int)) = false := by simp; omega
              have HE := Lib.hid he; clear he
              go_wp2_with fail
              go_roundw
              case rel => exact ⟨k + 1, false, _, by omega, by go_num, by rw [List.length_append, HRS.out]; rfl, rfl, sq_step_ne HE.out, HTN.out, B3.out⟩
              case measure => simp [intOf]; omega
        · obtain rfl : k = m := by omega
          have HQT := Lib.hid (HT.out.tab)
          have HSQ := Lib.hid (sq_is HRS.out HQ.out)
          clear HT HQ HRS
          obtain ⟨d, hd⟩ : ∃ d : Nat, (n : Int) % 20 = d := ⟨n % 20, by omega⟩
          have hd20 : d < 20 := by omega
          go_wp2_with fail
          obtain ⟨w2, hw2⟩ : ∃ w2 : World, w2 = wr := ⟨_, rfl⟩
          have HT2 := Lib.hid (hw2 ▸ HQT.out : TabV w2 w2.heap.size _ (rowsOf rs))
          have HB2 := Lib.hid (hw2 ▸ HB.out : Below w.heap.size w w2)
          rw [← hw2]
          clear HQT HB hsz hw2
          go_loopw [6, 10] (fun v i wr => ∃ (j : Nat) (rs : List Rw), j ≤ d ∧ i = .int .i64 j ∧ rs.length = j ∧ (∀ r ∈ rs, r.l.length = d) ∧ TabL wr w2.heap.size v j rs ∧ Below w2.heap.size w2 wr) (fun _ i _ => d - (intOf i).toNat)
          case atStart => exact ⟨0, [], by omega, rfl, rfl, fun r hr => (by cases hr), TabL.none_ _ _, Below.refl _ _⟩
          case round =>
            obtain ⟨j, ss, hj, rfl, hss, hall, ht, hb⟩ := hrel
            have HSS := Lib.hid hss; clear hss
            have HALL := Lib.hid hall; clear hall
            have HT := Lib.hid ht; clear ht
            have hsz := hb.size
            have HB := Lib.hid hb; clear hb
            by_cases hjd : j < d
            · have hmk := fun w => run_make_bools w d (by omega)
              have HO2 := Lib.hid ((HT.out.own.alloc (.cells (falses d) 4)).alloc (.cells #[.slice (some ⟨wr.heap.size, 0, none⟩) d d] 28))
              go_wp2_with (at_builtin; go_must (refine wpList_append_L 22 28 _ 24 Try.underlying22 inf_row rfl rfl _ _ rfl w2.heap.size _ _ _ rfl HO2.out (wr.heap.size + 1 + 1) _ 1 1 [.slice (some ⟨wr.heap.size, 0, none⟩) d d] rfl rfl ?d1 ?d2 ?d3 ?d4 ?d5 ?_))
              case d1 => have := lies_new (wr.alloc (.cells (falses d) 4)) [.slice (some ⟨wr.heap.size, 0, none⟩) d d] 28; simpa using this
              case d2 => intro u hu; simp at hu; subst hu; rfl
              case d3 => omega
              case d4 => omega
              case d5 => simp; omega
              intro v3 w3 ho3 hg3 hb3
              have B2 := Lib.hid ((below_alloc wr (.cells (falses d) 4)).trans ((below_alloc _ (.cells #[.slice (some ⟨wr.heap.size, 0, none⟩) d d] 28)).mono (by simp)))
              have B3 := Lib.hid ((HB.out.trans (B2.out.mono hsz)).trans hb3)
              have HOW := Lib.hid ((own_made (w := wr) (y := d) hsz).below (below_alloc _ (.cells #[.slice (some ⟨wr.heap.size, 0, none⟩) d d] 28)))
              have HTN := Lib.hid ((HT.out.below B2.out).snoc (r := ⟨some ⟨wr.heap.size, 0, none⟩, d, List.replicate d false⟩) (by simpa [Rw.hdr] using ho3) hg3 HOW.out)
              clear ho3 hg3 hb3 hmk
              go_wp2_with fail
              go_roundw
              case rel => exact ⟨j + 1, _, by omega, by go_num, by rw [List.length_append, HSS.out]; rfl, all_app HALL.out, HTN.out, B3.out⟩
              case measure => simp [intOf]; omega
            · obtain rfl : j = d := by omega
              have HT3 := Lib.hid (HT2.out.later HB.out)
              have q1 := sq_any wr HT3.out
              have q2 := sq_any wr HT.out.tab
              have q3 := trans_any wr HT3.out
              have q4 := refl_any wr HT3.out
              have q5 := anti_any wr HT3.out
              rw [HSQ.out] at q1
              rw [sq_even HSS.out HALL.out] at q2
              have HBE := Lib.hid (nextB HB2.out HB.out)
              cases q with
              | true =>
                have Q1 := Lib.hid q1; clear q1 q3 q4 q5
                by_cases h16 : 1 ≤ j ∧ j ≤ 16
                · rw [decide_eq_true h16] at q2
                  have Q2 := Lib.hid q2; clear q2
                  have f1 : decide (1 ≤ (j : Int)) = true := by simp; omega
                  have f2 : decide ((j : Int) ≤ 16) = true := by simp; omega
                  go_wp2_with fail
                  refine Q1.out.mono ?_
                  rintro e w' ⟨rfl, rfl⟩
                  go_wp2_with fail
                  refine Q2.out.mono ?_
                  rintro e w' ⟨rfl, rfl⟩
                  go_wp2_with fail
                  go_ret
                  exact ⟨rfl, HBE.out⟩
                · rw [decide_eq_false h16] at q2
                  have Q2 := Lib.hid q2; clear q2
                  by_cases h1 : 1 ≤ j
                  · have f1 : decide (1 ≤ (j : Int)) = true := by simp; omega
                    have f2 : decide ((j : Int) ≤ 16) = false := by simp; omega
                    go_wp2_with fail
                    refine Q1.out.mono ?_
                    rintro e w' ⟨rfl, rfl⟩
                    go_wp2_with fail
                    refine Q2.out.mono ?_
                    rintro e w' ⟨rfl, rfl⟩
                    go_wp2_with fail
                    go_ret
                    exact ⟨rfl, HBE.out⟩
                  · have f1 : decide (1 ≤ (j : Int)) = false := by simp; omega
                    go_wp2_with fail
                    refine Q1.out.mono ?_
                    rintro e w' ⟨rfl, rfl⟩
                    go_wp2_with fail
                    refine Q2.out.mono ?_
                    rintro e w' ⟨rfl, rfl⟩
                    go_wp2_with fail
                    go_ret
                    exact ⟨rfl, HBE.out⟩
              | false =>
                rw [trans_not HSQ.out] at q3
                rw [refl_not HSQ.out] at q4
                rw [anti_not HSQ.out] at q5
                have Q1 := Lib.hid q1; clear q1
                have Q3 := Lib.hid q3; clear q3
                have Q4 := Lib.hid q4; clear q4
                have Q5 := Lib.hid q5; clear q5
                by_cases h16 : 1 ≤ j ∧ j ≤ 16
                · rw [decide_eq_true h16] at q2
                  have Q2 := Lib.hid q2; clear q2
                  have f1 : decide (1 ≤ (j : Int)) = true := by simp; omega
                  have f2 : decide ((j : Int) ≤ 16) = true := by simp; omega
                  go_wp2_with fail
                  refine Q1.out.mono ?_
                  rintro e w' ⟨rfl, rfl⟩
                  go_wp2_with fail
                  refine Q2.out.mono ?_
                  rintro e w' ⟨rfl, rfl⟩
                  go_wp2_with fail
                  refine Q3.out.mono ?_
                  rintro e w' ⟨rfl, rfl⟩
                  go_wp2_with fail
                  refine Q4.out.mono ?_
                  rintro e w' ⟨rfl, rfl⟩
                  go_wp2_with fail
                  refine Q5.out.mono ?_
                  rintro e w' ⟨rfl, rfl⟩
                  go_wp2_with fail
                  go_ret
                  exact ⟨rfl, HBE.out⟩
                · rw [decide_eq_false h16] at q2
                  have Q2 := Lib.hid q2; clear q2
                  by_cases h1 : 1 ≤ j
                  · have f1 : decide (1 ≤ (j : Int)) = true := by simp; omega
                    have f2 : decide ((j : Int) ≤ 16) = false := by simp; omega
                    go_wp2_with fail
                    refine Q1.out.mono ?_
                    rintro e w' ⟨rfl, rfl⟩
                    go_wp2_with fail
                    refine Q2.out.mono ?_
                    rintro e w' ⟨rfl, rfl⟩
                    go_wp2_with fail
                    refine Q3.out.mono ?_
                    rintro e w' ⟨rfl, rfl⟩
                    go_wp2_with fail
                    refine Q4.out.mono ?_
                    rintro e w' ⟨rfl, rfl⟩
                    go_wp2_with fail
                    refine Q5.out.mono ?_
                    rintro e w' ⟨rfl, rfl⟩
                    go_wp2_with fail
                    go_ret
                    exact ⟨rfl, HBE.out⟩
                  · have f1 : decide (1 ≤ (j : Int)) = false := by simp; omega
                    go_wp2_with fail
                    refine Q1.out.mono ?_
                    rintro e w' ⟨rfl, rfl⟩
                    go_wp2_with fail
                    refine Q2.out.mono ?_
                    rintro e w' ⟨rfl, rfl⟩
                    go_wp2_with fail
                    refine Q3.out.mono ?_
                    rintro e w' ⟨rfl, rfl⟩
                    go_wp2_with fail
                    refine Q4.out.mono ?_
                    rintro e w' ⟨rfl, rfl⟩
                    go_wp2_with fail
                    refine Q5.out.mono ?_
                    rintro e w' ⟨rfl, rfl⟩
                    go_wp2_with fail
                    go_ret
                    exact ⟨rfl, HBE.out⟩

section
variable {H : Type} {enc : TypeId × Value → H} {W : World}
theorem open_u8s {base : Nat} {v : Value} {d : DataW H} {ps : List MemPlace} (hv : Value.okWide Try.prog W .any base 40 v) (h : DataW.Trod enc Try.prog W 0 (fun _ => true) true 40 v d ps) :
    ∃ A l c, v = .slice A l.length c ∧ l.length ≤ maxLen ∧ (∀ x ∈ l, 0 ≤ x ∧ x ≤ 255) ∧ Lies W W.heap.size A (u8s l) := by
  obtain ⟨a0, len, cap, rfl⟩ := okWide_slice Try.underlying40 hv
  obtain ⟨fuel, hf⟩ := h
  rcases open_ints Try.underlying40 Try.underlying5 (by kernel_rfl) hf with ⟨hcs, _⟩ | ⟨a, len', cap', zs, hcs, _, hl, hm, hz, _, hcell, hwz⟩
  · simp [Value.cells] at hcs
    obtain ⟨rfl, rfl, rfl⟩ := hcs
    exact ⟨none, [], 0, rfl, Nat.zero_le _, (fun u hu => by cases hu), Lies.nil⟩
  · simp [Value.cells] at hcs
    obtain ⟨rfl, rfl, rfl⟩ := hcs
    simp only [if_true] at hz
    have htl : (zs.take len).length = len := by rw [List.length_take]; omega
    refine ⟨some a, zs.take len, cap, by rw [htl], by omega, fun u hu => ?_, lies_of_ints (by omega) hcell⟩
    have := hwz u (List.mem_of_mem_take hu)
    simpa [Lit.wf, IntKind.min, IntKind.max, IntKind.signed, IntKind.bits] using this
end

set_option maxRecDepth 100000 in
theorem lifted (os : Os) (started : os.Started) (H : Type) (enc : TypeId × Value → H) :
    ReturnsInHanded {} Try.checked os 5 .any (Rows.orderSquaresSpec.pre6 enc Try.prog Try.f5 Rows.orderSquaresRow.domain false) (Rows.orderSquaresSpec.post enc Try.prog Try.f5 false true false false) := by
  refine returnsInHanded_of_change (C := Try.checked) ownKnobs started (by kernel_rfl) Try.func5
    (ChangeSpec.witness6 (enc := enc) (C := Try.checked) false ⟨#[], #[.slice none 0 0, .int .u8 0], []⟩ 8 (by kernel_rfl) (by kernel_rfl) (by kernel_rfl) (by kernel_rfl)) ?_
  intro W base args ds gs before hval hW _ _
  refine law_contract rfl rfl (fun ds h => by match ds, h with | [d1, d2], _ => rfl) (by decide +kernel) hW ?_
  obtain ⟨p, q, hA0, _⟩ := hW
  have hA : DataW.TrodAll enc Try.prog W 0 (fun _ => true) true Try.f5.params.toList args.toList ds p := hA0
  have hval' : ∀ (j : Nat) t v, Try.f5.params[j]? = some t → args[j]? = some v → Value.okWide Try.prog W .any base t v := hval
  rw [Try.params5] at hA hval'
  obtain ⟨v0, vs0, d0, ds0, p0, q0, hargs, rfl, rfl, h0, r0⟩ := trodAll_cons hA
  obtain ⟨v1, vs1, d1, ds1, p1, q1, rfl, rfl, rfl, h1, r1⟩ := trodAll_cons r0
  obtain ⟨rfl, rfl, rfl⟩ := trodAll_nil r1
  obtain rfl : args = #[v0, v1] := by cases args; simp_all
  obtain ⟨A, l, c, rfl, hm, hx, hl⟩ := open_u8s (hval' 0 _ v0 rfl rfl) h0
  obtain ⟨a1, rfl, rfl, rfl, w1⟩ := open_int Try.underlying5 (hval' 1 _ v1 rfl rfl) h1
  have b1 : 0 ≤ a1 ∧ a1 ≤ 255 := by simpa [Lit.wf, IntKind.min, IntKind.max, IntKind.signed, IntKind.bits] using w1
  obtain ⟨n, rfl⟩ : ∃ n : Nat, a1 = n := ⟨a1.toNat, by omega⟩
  exact walk A c n l W (by omega) hm hl hx

theorem proved : Rows.OrderSquaresSaid :=
  OpenClaim.holds_of_wide 5 Try.f5 rfl rfl rfl rfl rfl rfl rfl ⟨rfl, rfl, rfl, rfl, rfl⟩ rfl rfl rfl rfl rfl (by kernel_rfl) Try.func5 (by kernel_rfl)
    (of_decide_eq_true (by kernel_rfl)) (by unfold Func.isWrapper; first | (rw [if_pos (by decide +kernel)]; kernel_rfl) | (rw [if_neg (by decide +kernel)]; exact ⟨rfl, rfl⟩))
    (fun os started H enc _ => lifted os started H enc)

end Go.Proofs.Ytopjhgaamjgcnaa.orderSquares
