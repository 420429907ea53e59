/- ArenaApart returns true for every input and changes nothing: creating references at one label affects neither the quota nor the numbers of the other label. No condition. -/
import Derived.Test.YtboelofkbhgmfaaKn12
import Derived.Test.YtboelofkbhgmfaaLaw
import Derived.Test.YtboelofkbhgmfaaOpen12
namespace Go.Proofs.Ytboelofkbhgmfaa.arenaApart
set_option maxRecDepth 100000
open Go.RowKit Go.ChangeShapes Go.WideShapes Go.ChangeAt

/-- What holds of the loop: the arena and the two counts beside it. -/
structure ApK (w wr : World) (S : Nat → Prop) (lo g a m : Nat) (L0 L1 : List RefX) : Prop where
  ar : ArV wr S a [(m : Int), (m : Int)] [L0, L1]
  k0 : wr.heap[g]? = some (.cells #[.int .i64 (L0.length : Nat)] 3 (0, 0))
  k1 : wr.heap[g + 1]? = some (.cells #[.int .i64 (L1.length : Nat)] 3 (0, 0))
  n0 : ¬ S g
  n1 : ¬ S (g + 1)
  low : ∀ i, S i → lo ≤ i
  bel : Below w.heap.size w wr
  l0 : L0.length ≤ m
  l1 : L1.length ≤ m
  hh : w.heap.size ≤ lo ∧ lo ≤ g
def ApI (w wr : World) (lo g a m : Nat) (L0 L1 : List RefX) : Prop := ∃ S, ApK w wr S lo g a m L0 L1
section
variable {w wr w5 : World} {S S5 : Nat → Prop} {lo g a m : Nat} {L0 L1 : List RefX}
theorem ApK.lt (h : ApK w wr S lo g a m L0 L1) : g + 1 < wr.heap.size := (Array.getElem?_eq_some_iff.1 h.k1).1
theorem ApK.same (h : ApK w wr S lo g a m L0 L1) (hl : g + 1 < wr.heap.size) (h5 : ArV w5 S5 a [(m : Int), (m : Int)] [L0, L1]) (t5 : Stp S S5 wr w5) : ApI w w5 lo g a m L0 L1 :=
  ⟨S5, h5, (t5.frm.block g (by omega) h.n0).trans h.k0, (t5.frm.block (g + 1) hl h.n1).trans h.k1, fun e => h.n0 (t5.old g (by omega) e), fun e => h.n1 (t5.old (g + 1) hl e),
    t5.low h.low (by have := h.hh; omega), h.bel.trans ((t5.below h.low (by have := h.hh; omega)).mono h.hh.1), h.l0, h.l1, h.hh⟩
theorem ApK.grow0 {x : RefX} (h : ApK w wr S lo g a m L0 L1) (hlt : L0.length < m) (hl : g + 1 < wr.heap.size) (h5 : ArV w5 S5 a [(m : Int), (m : Int)] [L0 ++ [x], L1]) (t5 : Stp S S5 wr w5) : ApI w (w5.setCell ⟨g, 0, none⟩ (.int .i64 ((L0.length : Int) + 1))) lo g a m (L0 ++ [x]) L1 := by
  have k0 := (t5.frm.block g (by omega) h.n0).trans h.k0
  have k1 := (t5.frm.block (g + 1) hl h.n1).trans h.k1
  have n0 : ¬ S5 g := fun e => h.n0 (t5.old g (by omega) e)
  refine ⟨S5, h5.keep (T := One g) (Frm.setCell (S := One g) (p := ⟨g, 0, none⟩) rfl _) (fun i hi e => n0 (by rw [← show i = g from e]; exact hi)), ?_, ?_, n0, fun e => h.n1 (t5.old (g + 1) hl e), t5.low h.low (by have := h.hh; omega), ?_, by simp; omega, h.l1, h.hh⟩
  · rw [set_blk k0 0 _]; simp
  · exact (Below.heap_setCell _ _ _ _ (by show g + 1 ≠ g; omega)).trans k1
  · exact (h.bel.trans ((t5.below h.low (by have := h.hh; omega)).mono h.hh.1)).setCell (by show w.heap.size ≤ g; have := h.hh; omega) _
theorem ApK.grow1 {x : RefX} (h : ApK w wr S lo g a m L0 L1) (hlt : L1.length < m) (hl : g + 1 < wr.heap.size) (h5 : ArV w5 S5 a [(m : Int), (m : Int)] [L0, L1 ++ [x]]) (t5 : Stp S S5 wr w5) : ApI w (w5.setCell ⟨g + 1, 0, none⟩ (.int .i64 ((L1.length : Int) + 1))) lo g a m L0 (L1 ++ [x]) := by
  have k0 := (t5.frm.block g (by omega) h.n0).trans h.k0
  have k1 := (t5.frm.block (g + 1) hl h.n1).trans h.k1
  have n1 : ¬ S5 (g + 1) := fun e => h.n1 (t5.old (g + 1) hl e)
  refine ⟨S5, h5.keep (T := One (g + 1)) (Frm.setCell (S := One (g + 1)) (p := ⟨g + 1, 0, none⟩) rfl _) (fun i hi e => n1 (by rw [← show i = g + 1 from e]; exact hi)), ?_, ?_, fun e => h.n0 (t5.old g (by omega) e), n1, t5.low h.low (by have := h.hh; omega), ?_, h.l0, by simp; omega, h.hh⟩
  · exact (Below.heap_setCell _ _ _ _ (by show g ≠ g + 1; omega)).trans k0
  · rw [set_blk k1 0 _]; simp
  · exact (h.bel.trans ((t5.below h.low (by have := h.hh; omega)).mono h.hh.1)).setCell (by show w.heap.size ≤ g + 1; have := h.hh; omega) _
end

set_option maxRecDepth 100000 in
set_option maxHeartbeats 16000000 in
theorem walk (q n k j : Nat) (w : World) (hq : q ≤ 255) (hn : n ≤ 255) (hk : k ≤ 255) (hj : j ≤ 255) :
    Calls Try.prog 4 #[.int .u8 q, .int .u8 n, .int .u8 k, .int .u8 j] w fun e w' => e = .returned (.bool true) ∧ Below w.heap.size w w' := by
  obtain ⟨m, hm⟩ : ∃ m : Nat, m = q % 9 := ⟨_, rfl⟩
  have hm8 : m ≤ 8 := by omega
  have e1 : (q : Int) % 9 = (m : Int) := by omega
  obtain ⟨N, hN⟩ : ∃ N : Nat, N = n % 20 := ⟨_, rfl⟩
  have hN20 : N < 20 := by omega
  have e2 : (n : Int) % 20 = (N : Int) := by omega
  clear hm hN
  have HQ : Hid (quotasZ [(m : Int), (m : Int)] = [(m : Int), (m : Int)]) := Lib.hid (by
    have : clampZ (m : Int) = m := by unfold clampZ; omega
    simp [quotasZ, this])
  go_enter Try.func4, Try.ntmps4
  go_wp2_with fail
  refine (known12_any w).mono ?_
  rintro e w1 ⟨rfl, hb1⟩
  have B1 := Lib.hid hb1; clear hb1
  obtain ⟨w2, hw2⟩ : ∃ w2, w2 = w1.alloc (.cells #[.int .i64 m, .int .i64 m] 3) := ⟨_, rfl⟩
  have B2 : Hid (Below w.heap.size w w2) := Lib.hid (by rw [hw2]; exact B1.out.alloc B1.out.size _)
  have HAN := Lib.hid (arNew_any (.slice (some ⟨w1.heap.size, 0, none⟩) 2 2) [m, m] w2 (by rw [hw2]; exact numv_new w1 [m, m]) (by simp))
  have HW2 := Lib.hid hw2
  clear hw2
  go_wp2_with fail
  rw [← HW2.out]
  with_reducible refine HAN.out.mono ?_
  rintro e w3 ⟨a, rfl, hA, hb⟩
  rw [HQ.out] at hA
  have A3 : Hid (ArV w3 (fun b => w2.heap.size ≤ b ∧ b < w3.heap.size) a [m, m] [[], []]) := Lib.hid hA
  have B3 := Lib.hid hb
  clear hA hb HAN
  go_wp2_with fail
  obtain ⟨g, hg⟩ : ∃ g, g = w3.heap.size := ⟨_, rfl⟩
  have LT3 : Hid (∀ i, (w2.heap.size ≤ i ∧ i < w3.heap.size) → i < g) := Lib.hid (by rw [hg]; exact fun i h => h.2)
  have H0 : Hid (ApI w ((w3.alloc (.cells #[.int .i64 0] 3)).alloc (.cells #[.int .i64 0] 3)) w2.heap.size g a m [] [] ) := Lib.hid ⟨_, ⟨(A3.out.below (below_alloc _ _)).below (below_alloc _ _),
    heapOldS (by rw [hg]; exact heap_alloc_new _ _), heapNewS (by simp [hg]), fun h => by have := LT3.out g h; omega, fun h => by have := LT3.out (g + 1) h; omega, fun i h => h.1,
    (B2.out.trans (B3.out.mono B2.out.size)).trans ((((below_alloc w3 _).alloc (by simp) _)).mono (Nat.le_trans B2.out.size B3.out.size)), Nat.zero_le _, Nat.zero_le _, B2.out.size, by rw [hg]; exact B3.out.size⟩⟩
  have HG := Lib.hid hg
  have HW3 : w.heap.size ≤ w2.heap.size ∧ w2.heap.size ≤ w3.heap.size := ⟨B2.out.size, B3.out.size⟩
  rw [← hg] at HW3
  obtain ⟨w4, hw4⟩ : ∃ w4, w4 = ((w3.alloc (.cells #[.int .i64 0] 3)).alloc (.cells #[.int .i64 0] 3)) := ⟨_, rfl⟩
  rw [← hw4] at H0
  rw [← hw4, ← hg]
  clear hw4 A3 LT3 hg
  go_loopw [12] (fun i wr => ∃ c : Nat, ∃ L0 L1, c ≤ N ∧ i = .int .i64 c ∧ ApI w wr w2.heap.size g a m L0 L1) (fun i _ => N - (intOf i).toNat)
  case atStart => exact ⟨0, [], [], Nat.zero_le _, rfl, H0.out⟩
  case round =>
    clear H0
    obtain ⟨c, L0, L1, hc, rfl, hI⟩ := hrel
    have HI := Lib.hid hI
    obtain ⟨S, hK⟩ := hI
    have x0 := cell_blk hK.k0 0
    have x1 := cell_blk hK.k1 0
    have HA := Lib.hid hK.ar
    have HX := Lib.hid hK
    have gl := hK.lt
    have l0 := hK.l0
    have l1 := hK.l1
    clear hK
    by_cases hcn : c < N
    · obtain ⟨d, b, e3, hd, hb, hx, e4⟩ := bit_of k (c % 8) (by omega)
      clear hx
      have hb2 : b < 2 := by omega
      clear hb hk
      rcases (by omega : b = 0 ∨ b = 1) with rfl | rfl
      · rw [show ((0 : Nat) : Int) = 0 from rfl] at e4
        clear hb2
        obtain ⟨tB, tY, tN⟩ := mk_two0 m L0 L1 ⟨(j : Int) % 16, c⟩
        have HM := Lib.hid (arMake_any HA.out 0 ((j : Int) % 16) c (by decide))
        unfold ArMk at HM
        rw [tB] at HM
        by_cases hlt : L0.length < m
        · rw [(tY hlt).1, (tY hlt).2, decide_eq_true hlt] at HM
          clear tB tY tN
          obtain ⟨v, hv⟩ : ∃ v : Nat, L0.length = v := ⟨_, rfl⟩
          rw [hv] at x0 hlt HM
          have HV := Lib.hid hv
          clear hv l0 l1
          go_wp2_with fail
          refine HM.out.mono ?_
          rintro e w5 ⟨rfl, S5, h5, t5⟩
          have y := cell_blk ((t5.frm.block (g) (by omega) HX.out.n0).trans HX.out.k0) 0
          rw [HV.out] at y
          have z := frozen_blk ((t5.frm.block (g) (by omega) HX.out.n0).trans HX.out.k0) 0
          have gs : g < w5.heap.size := by have := t5.frm.size; omega
          have HR := Lib.hid (HX.out.grow0 (by rw [HV.out]; exact hlt) (by omega) h5 t5)
          rw [HV.out] at HR
          clear h5 t5 x0 x1
          have z1 : decide (v < m) = true := by simp; omega
          have zi : IntKind.i64.wrap ((v : Int) + 1) = (v : Int) + 1 := IntWalk.i64_in _ (by omega)
          go_wp2_with fail
          go_roundw
          case rel => exact ⟨c + 1, _, _, by omega, by go_num, HR.out⟩
          case measure => simp [intOf]; omega
        · rw [(tN hlt).1, (tN hlt).2, decide_eq_false hlt] at HM
          clear tB tY tN
          obtain ⟨v, hv⟩ : ∃ v : Nat, L0.length = v := ⟨_, rfl⟩
          rw [hv] at x0 hlt 
          have HV := Lib.hid hv
          clear hv l0 l1
          go_wp2_with fail
          refine HM.out.mono ?_
          rintro e w5 ⟨rfl, S5, h5, t5⟩
          have y := cell_blk ((t5.frm.block (g) (by omega) HX.out.n0).trans HX.out.k0) 0
          rw [HV.out] at y
          have z := frozen_blk ((t5.frm.block (g) (by omega) HX.out.n0).trans HX.out.k0) 0
          have gs : g < w5.heap.size := by have := t5.frm.size; omega
          have HR := Lib.hid (HX.out.same (by omega) h5 t5)
          clear h5 t5 x0 x1
          have z1 : decide (v < m) = false := by simp; omega
          go_wp2_with fail
          go_roundw
          case rel => exact ⟨c + 1, _, _, by omega, by go_num, HR.out⟩
          case measure => simp [intOf]; omega
      · rw [show ((1 : Nat) : Int) = 1 from rfl] at e4
        clear hb2
        obtain ⟨tB, tY, tN⟩ := mk_two1 m L0 L1 ⟨(j : Int) % 16, c⟩
        have HM := Lib.hid (arMake_any HA.out 1 ((j : Int) % 16) c (by decide))
        unfold ArMk at HM
        rw [tB] at HM
        by_cases hlt : L1.length < m
        · rw [(tY hlt).1, (tY hlt).2, decide_eq_true hlt] at HM
          clear tB tY tN
          obtain ⟨v, hv⟩ : ∃ v : Nat, L1.length = v := ⟨_, rfl⟩
          rw [hv] at x1 hlt HM
          have HV := Lib.hid hv
          clear hv l0 l1
          go_wp2_with fail
          refine HM.out.mono ?_
          rintro e w5 ⟨rfl, S5, h5, t5⟩
          have y := cell_blk ((t5.frm.block (g + 1) (by omega) HX.out.n1).trans HX.out.k1) 0
          rw [HV.out] at y
          have z := frozen_blk ((t5.frm.block (g + 1) (by omega) HX.out.n1).trans HX.out.k1) 0
          have gs : g + 1 < w5.heap.size := by have := t5.frm.size; omega
          have HR := Lib.hid (HX.out.grow1 (by rw [HV.out]; exact hlt) (by omega) h5 t5)
          rw [HV.out] at HR
          clear h5 t5 x0 x1
          have z1 : decide (v < m) = true := by simp; omega
          have zi : IntKind.i64.wrap ((v : Int) + 1) = (v : Int) + 1 := IntWalk.i64_in _ (by omega)
          go_wp2_with fail
          go_roundw
          case rel => exact ⟨c + 1, _, _, by omega, by go_num, HR.out⟩
          case measure => simp [intOf]; omega
        · rw [(tN hlt).1, (tN hlt).2, decide_eq_false hlt] at HM
          clear tB tY tN
          obtain ⟨v, hv⟩ : ∃ v : Nat, L1.length = v := ⟨_, rfl⟩
          rw [hv] at x1 hlt 
          have HV := Lib.hid hv
          clear hv l0 l1
          go_wp2_with fail
          refine HM.out.mono ?_
          rintro e w5 ⟨rfl, S5, h5, t5⟩
          have y := cell_blk ((t5.frm.block (g + 1) (by omega) HX.out.n1).trans HX.out.k1) 0
          rw [HV.out] at y
          have z := frozen_blk ((t5.frm.block (g + 1) (by omega) HX.out.n1).trans HX.out.k1) 0
          have gs : g + 1 < w5.heap.size := by have := t5.frm.size; omega
          have HR := Lib.hid (HX.out.same (by omega) h5 t5)
          clear h5 t5 x0 x1
          have z1 : decide (v < m) = false := by simp; omega
          go_wp2_with fail
          go_roundw
          case rel => exact ⟨c + 1, _, _, by omega, by go_num, HR.out⟩
          case measure => simp [intOf]; omega
    · obtain rfl : c = N := by omega
      have HC0 := Lib.hid (fun n => quiet_flip (arCount_any (HA.out.below (below_drewN (Below.refl _ _) n)) 0))
      have HC1 := Lib.hid (fun n => quiet_flip (arCount_any (HA.out.below (below_drewN (Below.refl _ _) n)) 1))
      rw [show cntZ [L0, L1] 0 = L0.length from by simp [cntZ]] at HC0
      rw [show cntZ [L0, L1] 1 = L1.length from by simp [cntZ]] at HC1
      obtain ⟨v0, q0⟩ : ∃ v : Nat, L0.length = v := ⟨_, rfl⟩
      obtain ⟨v1, q1⟩ : ∃ v : Nat, L1.length = v := ⟨_, rfl⟩
      rw [q0] at x0 HC0
      rw [q1] at x1 HC1
      have f0 : ((v0 : Int) == (v0 : Int)) = true := beq_self_eq_true _
      have f1 : ((v1 : Int) == (v1 : Int)) = true := beq_self_eq_true _
      clear q0 q1 l0 l1
      go_wp2_with fail
      go_quiet ((go_at_call 25; first | (with_reducible exact Calls.quiet_of_same (HC0.out _)) | (with_reducible exact Calls.quiet_of_same (HC1.out _))))
      go_wp2_with fail
      go_ret
      exact ⟨rfl, below_drewN HX.out.bel _⟩

/- The claim. -/

set_option maxRecDepth 100000 in
theorem lifted (os : Os) (started : os.Started) (H : Type) (enc : TypeId × Value → H) :
    ReturnsInHanded {} Try.checked os 4 .any (Rows.arenaApartSpec.pre6 enc Try.prog Try.f4 Rows.arenaApartRow.domain false) (Rows.arenaApartSpec.post enc Try.prog Try.f4 false true false false) := by
  refine returnsInHanded_of_change (C := Try.checked) ownKnobs started (by kernel_rfl) Try.func4
    (ChangeSpec.witness6 (enc := enc) (C := Try.checked) false ⟨#[], #[.int .u8 0, .int .u8 0, .int .u8 0, .int .u8 0], []⟩ 8 (by kernel_rfl) (by kernel_rfl) (by kernel_rfl) (by kernel_rfl)) ?_
  intro W base args ds gs before hval hW _ _
  refine law_contract rfl rfl (fun ds h => by match ds, h with | [d1, d2, d3, d4], _ => rfl) (by decide +kernel) hW ?_
  obtain ⟨p, q, hA0, _⟩ := hW
  have hA : DataW.TrodAll enc Try.prog W 0 (fun _ => true) true Try.f4.params.toList args.toList ds p := hA0
  have hval' : ∀ (j : Nat) t v, Try.f4.params[j]? = some t → args[j]? = some v → Value.okWide Try.prog W .any base t v := hval
  rw [Try.params4] at hA hval'
  obtain ⟨v0, vs0, d0, ds0, p0, q0, hargs, rfl, rfl, h0, r0⟩ := trodAll_cons hA
  obtain ⟨v1, vs1, d1, ds1, p1, q1, rfl, rfl, rfl, h1, r1⟩ := trodAll_cons r0
  obtain ⟨v2, vs2, d2, ds2, p2, q2, rfl, rfl, rfl, h2, r2⟩ := trodAll_cons r1
  obtain ⟨v3, vs3, d3, ds3, p3, q3, rfl, rfl, rfl, h3, r3⟩ := trodAll_cons r2
  obtain ⟨rfl, rfl, rfl⟩ := trodAll_nil r3
  obtain rfl : args = #[v0, v1, v2, v3] := by cases args; simp_all
  obtain ⟨z0, rfl, rfl, rfl, w0⟩ := open_int Try.underlying5 (hval' 0 _ v0 rfl rfl) h0
  have b0 : 0 ≤ z0 ∧ z0 ≤ 255 := by simpa [Lit.wf, IntKind.min, IntKind.max, IntKind.signed, IntKind.bits] using w0
  obtain ⟨a0, rfl⟩ : ∃ n : Nat, z0 = n := ⟨z0.toNat, by omega⟩
  obtain ⟨z1, rfl, rfl, rfl, w1⟩ := open_int Try.underlying5 (hval' 1 _ v1 rfl rfl) h1
  have b1 : 0 ≤ z1 ∧ z1 ≤ 255 := by simpa [Lit.wf, IntKind.min, IntKind.max, IntKind.signed, IntKind.bits] using w1
  obtain ⟨a1, rfl⟩ : ∃ n : Nat, z1 = n := ⟨z1.toNat, by omega⟩
  obtain ⟨z2, rfl, rfl, rfl, w2⟩ := open_int Try.underlying5 (hval' 2 _ v2 rfl rfl) h2
  have b2 : 0 ≤ z2 ∧ z2 ≤ 255 := by simpa [Lit.wf, IntKind.min, IntKind.max, IntKind.signed, IntKind.bits] using w2
  obtain ⟨a2, rfl⟩ : ∃ n : Nat, z2 = n := ⟨z2.toNat, by omega⟩
  obtain ⟨z3, rfl, rfl, rfl, w3⟩ := open_int Try.underlying5 (hval' 3 _ v3 rfl rfl) h3
  have b3 : 0 ≤ z3 ∧ z3 ≤ 255 := by simpa [Lit.wf, IntKind.min, IntKind.max, IntKind.signed, IntKind.bits] using w3
  obtain ⟨a3, rfl⟩ : ∃ n : Nat, z3 = n := ⟨z3.toNat, by omega⟩
  exact walk a0 a1 a2 a3 W (by omega) (by omega) (by omega) (by omega)

theorem proved : Rows.ArenaApartSaid :=
  OpenClaim.holds_of_wide 4 Try.f4 rfl rfl rfl rfl rfl rfl rfl ⟨rfl, rfl, rfl, rfl, rfl⟩ rfl rfl rfl rfl rfl (by kernel_rfl) Try.func4 (by kernel_rfl)
    (of_decide_eq_true (by kernel_rfl)) (by unfold Func.isWrapper; first | (rw [if_pos (by decide +kernel)]; kernel_rfl) | (rw [if_neg (by decide +kernel)]; exact ⟨rfl, rfl⟩))
    (fun os started H enc _ => lifted os started H enc)

end Go.Proofs.Ytboelofkbhgmfaa.arenaApart
