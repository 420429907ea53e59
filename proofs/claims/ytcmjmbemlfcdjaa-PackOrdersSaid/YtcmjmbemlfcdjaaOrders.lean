/- PackOrders returns true for every input and changes nothing: encodings of one length are in order as their numbers, a shorter one belongs to a smaller number and is not the beginning of a longer one. No condition. -/
import Derived.Test.YtcmjmbemlfcdjaaKnown
import Derived.Test.YtcmjmbemlfcdjaaLess
import Derived.Test.YtcmjmbemlfcdjaaLaw
import Derived.Deep.RegionWith
import Derived.Deep.DeepCutAuto
namespace Go.Proofs.Ytcmjmbemlfcdjaa.packOrders
open Go.RowKit Go.ChangeShapes Go.WideShapes Go.ChangeAt

theorem cell_drew (w : World) (a : Addr) : w.drew.cell? a = w.cell? a := rfl
theorem size_drew (w : World) : w.drew.heap.size = w.heap.size := rfl
theorem cell_new (w : World) (v : Value) (t : Nat) : (w.alloc (.cells #[v] t)).cell? ⟨w.heap.size, 0, none⟩ = some v := by
  have h : (w.alloc (.cells #[v] t)).heap[w.heap.size]? = some (.cells #[v] t (0, 0)) := heap_alloc_new w _
  rw [cell_blk h]; rfl
theorem cell_new2 (w : World) (v : Value) (t : Nat) (o : Obj) : ((w.alloc o).alloc (.cells #[v] t)).cell? ⟨w.heap.size + 1, 0, none⟩ = some v := by
  have h := cell_new (w.alloc o) v t
  rw [World.size_alloc] at h; exact h
theorem cell_old (w : World) (v : Value) (t : Nat) (o : Obj) : ((w.alloc (.cells #[v] t)).alloc o).cell? ⟨w.heap.size, 0, none⟩ = some v := by
  rw [World.cell?_alloc_past _ _ _ (by simp)]; exact cell_new w v t

theorem down1 {B : Nat} {w w' : World} {o : Obj} (h : Below ((w.alloc o).drew).heap.size ((w.alloc o).drew) w') (hB : B ≤ w.heap.size) : Below B w w' :=
  (((below_alloc w o).drew).mono hB).trans (h.mono (by rw [size_drew, World.size_alloc]; omega))
theorem down2 {B : Nat} {w w' : World} {o o' : Obj} (h : Below (((w.alloc o).alloc o').drew).heap.size (((w.alloc o).alloc o').drew) w') (hB : B ≤ w.heap.size) : Below B w w' :=
  ((((below_alloc w o).alloc (by rw [World.size_alloc]; omega) o').drew).mono hB).trans (h.mono (by rw [size_drew, World.size_alloc, World.size_alloc]; omega))
theorem down0 {B : Nat} {w w' : World} {o : Obj} (h : Below (w.alloc o).heap.size (w.alloc o) w') (hB : B ≤ w.heap.size) : Below B w w' :=
  ((below_alloc w o).mono hB).trans (h.mono (by rw [World.size_alloc]; omega))

theorem lies_one {w : World} {h B : Nat} {v : Value} (hc : w.cell? ⟨h, 0, none⟩ = some v) (hB : w.heap.size ≤ B) : Lies w B (some ⟨h, 0, none⟩) [v] := fun _ =>
  ⟨h, 0, rfl, Nat.lt_of_lt_of_le (World.block_lt_of_cell? w _ hc) hB, fun j u hu => by
    match j, hu with
    | 0, hu => simp at hu; subst hu; exact hc⟩

theorem put_one (h x : Nat) (w : World) (hx : x ≤ 18446744073709551615) (hc : w.cell? ⟨h, 0, none⟩ = some (.int .u64 x)) :
    Calls Try.prog 10 #[.slice (some ⟨h, 0, none⟩) 1 1] w fun e w' =>
      ∃ A n c, e = .returned (.slice A n c) ∧ (enc x).length = n ∧ Lies w' w'.heap.size A (u8s (enc x)) ∧ Below w.heap.size w w' := by
  refine (put_any w.heap.size _ 1 1 [x] w rfl (by omega) (by intro y hy; simp at hy; omega) (Nat.le_refl _) (lies_one hc (Nat.le_refl _))).mono ?_
  rintro e w' ⟨v, rfl, ho, hb⟩
  rw [show encs [x] = enc x from by simp [encs]] at ho
  obtain ⟨A, c, rfl, _, _, _, hl, _⟩ := Lies.of_own ho
  exact ⟨A, _, c, rfl, rfl, hl, hb⟩

set_option maxHeartbeats 2000000 in
theorem walk (n m k j : Nat) (hn : n ≤ 18446744073709551615) (hm : m ≤ 18446744073709551615) (hk : k ≤ 255) (hj : j ≤ 255) (w : World) :
    Calls Try.prog 5 #[.int .u64 n, .int .u64 m, .int .u8 k, .int .u8 j] w fun e w' => e = .returned (.bool true) ∧ Below w.heap.size w w' := by
  go_enter Try.func5, Try.ntmps5
  go_wp2_with fail
  refine (known_any w).mono ?_
  rintro e w1 ⟨rfl, B1⟩
  have s1 := B1.size
  go_wp2_with fail
  refine (edge_any n k w1 hn hk).mono ?_
  have hx := edgeN_le n k hn
  generalize edgeN n k = x at *
  rintro e w2 ⟨rfl, hb2⟩
  have B2 := B1.trans (hb2.mono s1)
  have s2 := B2.size
  go_wp2_with fail
  refine (edge_any m j w2 hm hj).mono ?_
  have hy := edgeN_le m j hm
  generalize edgeN m j = y at *
  rintro e w3 ⟨rfl, hb3⟩
  have B3 := B2.trans (hb3.mono s2)
  have s3 := B3.size
  go_upto_region 4 with fail
  go_cut [11, 12] (fun s11 s12 wx => s11 = .string (strOfNums (enc x)) ∧ s12 = .string (strOfNums (enc y)) ∧ Below w.heap.size w wx)
  case first =>
    have tok1 : True := trivial
    have HX := Lib.hid hx; clear hx
    have HY := Lib.hid hy; clear hy
    go_region_with (first
      | (go_at_call 10; have _t := tok1; refine (put_one _ x _ HX.out ?_).mono ?_; (first | exact cell_new _ _ _ | exact cell_new2 _ _ _ _ | exact cell_old _ _ _ _); rintro e w4 ⟨A4, n4, c4, rfl, hn4, hl4, hb4⟩; have b4 : Below w.heap.size w w4 := (by first | exact B3.trans (down1 hb4 s3) | exact B3.trans (down2 hb4 s3)); have k4 := conv_bytes hn4 hl4 c4; have k4a := fun o => conv_bytes hn4 (hl4.below (below_alloc w4 o)) c4; clear tok1)
      | (go_at_call 10; go_must (refine (put_one _ y _ HY.out ?_).mono ?_); (first | exact cell_new _ _ _ | (exact (hb4.cell (by simp <;> omega)).trans (cell_new2 _ _ _ _)) | (exact (hb4.cell (by simp <;> omega)).trans (cell_old _ _ _ _)) | (exact (hb4.cell (by simp <;> omega)).trans (cell_new _ _ _))); rintro e w5 ⟨A5, n5, c5, rfl, hn5, hl5, hb5⟩; have b5 : Below w.heap.size w w5 := (by first | exact b4.trans (hb5.mono b4.size) | exact b4.trans (down0 hb5 b4.size)); have k5 := conv_bytes hn5 hl5 c5; have k5a := conv_bytes hn4 (show Lies w5 w4.heap.size A4 (u8s (enc x)) from by first | exact hl4.below hb5 | exact hl4.below ((below_alloc w4 _).trans (hb5.mono (by simp)))) c4))
    all_goals (go_wp2_with fail; go_meet; exact ⟨rfl, rfl, b5⟩)
  case rest =>
    obtain ⟨rfl, rfl, B4⟩ := hcut
    have HX := Lib.hid hx
    have HY := Lib.hid hy
    go_wp2_with fail
    all_goals go_ret
    all_goals refine ⟨?_, B4⟩
    · exact way_same HX.out HY.out (by assumption)
    · exact way_cut (by assumption)
    · exact absurd (way_some HY.out) (by assumption)
    · exact absurd (way_less HY.out HX.out (by assumption)) (by assumption)
    · exact way_cut (way_other (by assumption) (by assumption))
    · exact absurd (way_some HX.out) (by assumption)
    · exact absurd (way_less HX.out HY.out (way_other (by assumption) (by assumption))) (by assumption)

set_option maxRecDepth 100000 in
theorem lifted (os : Os) (started : os.Started) (H : Type) (enc : TypeId × Value → H) :
    ReturnsInHanded {} Try.checked os 5 .any (Rows.packOrdersSpec.pre6 enc Try.prog Try.f5 Rows.packOrdersRow.domain false) (Rows.packOrdersSpec.post enc Try.prog Try.f5 false true false false) := by
  refine returnsInHanded_of_change (C := Try.checked) ownKnobs started (by kernel_rfl) Try.func5
    (ChangeSpec.witness6 (enc := enc) (C := Try.checked) false ⟨#[], #[.int .u64 0, .int .u64 0, .int .u8 0, .int .u8 0], []⟩ 8 (by kernel_rfl) (by kernel_rfl) (by kernel_rfl) (by kernel_rfl)) ?_
  intro W base args ds gs before hval hW _ _
  refine law_contract rfl rfl (fun ds h => by match ds, h with | [d1, d2, d3, d4], _ => rfl) (by decide +kernel) hW ?_
  obtain ⟨p, q, hA0, _⟩ := hW
  have hA : DataW.TrodAll enc Try.prog W 0 (fun _ => true) true Try.f5.params.toList args.toList ds p := hA0
  have hval' : ∀ (j : Nat) t v, Try.f5.params[j]? = some t → args[j]? = some v → Value.okWide Try.prog W .any base t v := hval
  rw [Try.params5] at hA hval'
  obtain ⟨v0, vs0, d0, ds0, p0, q0, hargs, rfl, rfl, h0, r0⟩ := trodAll_cons hA
  obtain ⟨v1, vs1, d1, ds1, p1, q1, rfl, rfl, rfl, h1, r1⟩ := trodAll_cons r0
  obtain ⟨v2, vs2, d2, ds2, p2, q2, rfl, rfl, rfl, h2, r2⟩ := trodAll_cons r1
  obtain ⟨v3, vs3, d3, ds3, p3, q3, rfl, rfl, rfl, h3, r3⟩ := trodAll_cons r2
  obtain ⟨rfl, rfl, rfl⟩ := trodAll_nil r3
  obtain rfl : args = #[v0, v1, v2, v3] := by cases args; simp_all
  obtain ⟨a0, rfl, rfl, rfl, w0⟩ := open_int Try.underlying29 (hval' 0 _ v0 rfl rfl) h0
  obtain ⟨a1, rfl, rfl, rfl, w1⟩ := open_int Try.underlying29 (hval' 1 _ v1 rfl rfl) h1
  obtain ⟨a2, rfl, rfl, rfl, w2⟩ := open_int Try.underlying5 (hval' 2 _ v2 rfl rfl) h2
  obtain ⟨a3, rfl, rfl, rfl, w3⟩ := open_int Try.underlying5 (hval' 3 _ v3 rfl rfl) h3
  have b0 : 0 ≤ a0 ∧ a0 ≤ 18446744073709551615 := by simpa [Lit.wf, IntKind.min, IntKind.max, IntKind.signed, IntKind.bits] using w0
  have b1 : 0 ≤ a1 ∧ a1 ≤ 18446744073709551615 := by simpa [Lit.wf, IntKind.min, IntKind.max, IntKind.signed, IntKind.bits] using w1
  have b2 : 0 ≤ a2 ∧ a2 ≤ 255 := by simpa [Lit.wf, IntKind.min, IntKind.max, IntKind.signed, IntKind.bits] using w2
  have b3 : 0 ≤ a3 ∧ a3 ≤ 255 := by simpa [Lit.wf, IntKind.min, IntKind.max, IntKind.signed, IntKind.bits] using w3
  obtain ⟨n, rfl⟩ : ∃ n : Nat, a0 = n := ⟨a0.toNat, by omega⟩
  obtain ⟨m, rfl⟩ : ∃ n : Nat, a1 = n := ⟨a1.toNat, by omega⟩
  obtain ⟨k, rfl⟩ : ∃ k : Nat, a2 = k := ⟨a2.toNat, by omega⟩
  obtain ⟨j, rfl⟩ : ∃ c : Nat, a3 = c := ⟨a3.toNat, by omega⟩
  exact walk n m k j (by omega) (by omega) (by omega) (by omega) W

theorem proved : Rows.PackOrdersSaid :=
  OpenClaim.holds_of_wide 5 Try.f5 rfl rfl rfl rfl rfl rfl rfl ⟨rfl, rfl, rfl, rfl, rfl⟩ rfl rfl rfl rfl rfl (by kernel_rfl) Try.func5 (by kernel_rfl)
    (of_decide_eq_true (by kernel_rfl)) (by unfold Func.isWrapper; first | (rw [if_pos (by decide +kernel)]; kernel_rfl) | (rw [if_neg (by decide +kernel)]; exact ⟨rfl, rfl⟩))
    (fun os started H enc _ => lifted os started H enc)

end Go.Proofs.Ytcmjmbemlfcdjaa.packOrders
