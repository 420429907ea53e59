/- RingEnds returns true for every input and changes nothing: its owner takes the newest, and others the oldest, till they meet. No condition. -/
import Derived.Test.YtlmbjnegajiphaaKnown15
import Derived.Test.YtlmbjnegajiphaaBoolV
import Derived.Test.YtlmbjnegajiphaaLaw
namespace Go.Proofs.Ytlmbjnegajiphaa.ringEnds
set_option maxRecDepth 100000
open Go.RowKit Go.ChangeShapes Go.WideShapes Go.ChangeAt

/-- n tasks with the numbers from lo on. -/
def idsF (lo : Nat) : Nat → List TK
  | 0 => []
  | n + 1 => idT (lo : Int) :: idsF (lo + 1) n
theorem idsF_len (lo n : Nat) : (idsF lo n).length = n := by
  induction n generalizing lo with
  | zero => rfl
  | succ n ih => simp [idsF, ih]
theorem idsF_snoc (lo n : Nat) : idsF lo (n + 1) = idsF lo n ++ [idT ((lo + n : Nat) : Int)] := by
  induction n generalizing lo with
  | zero => rfl
  | succ n ih => rw [idsF, ih, show lo + 1 + n = lo + (n + 1) from by omega]; rfl
/-- A ring in blocks that are new, with the numbers from lo on, n of them. -/
def EnK (w wr : World) (a lo n : Nat) : Prop := ∃ S, RgV wr S a 20 (idsF lo n) ∧ (∀ i, S i → w.heap.size ≤ i) ∧ Below w.heap.size w wr
theorem EnK.below {w wr w' : World} {a lo n : Nat} (h : EnK w wr a lo n) (hb : Below wr.heap.size wr w') : EnK w w' a lo n := by
  obtain ⟨S, h1, h2, h3⟩ := h
  exact ⟨S, h1.below hb, h2, nextB h3 hb⟩
theorem EnK.gone {w wr w' : World} {a lo n : Nat} {S : Nat → Prop} (hlo : ∀ i, S i → w.heap.size ≤ i) (hb : Below w.heap.size w wr) (h1 : RgV w' S a 20 (idsF lo n)) (hs : Stp S S wr w') : EnK w w' a lo n :=
  ⟨S, h1, hs.low hlo hb.size, hb.trans (hs.below hlo hb.size)⟩
set_option maxRecDepth 100000 in
set_option maxHeartbeats 8000000 in
theorem walk (n : Nat) (v : Value) (l : List Bool) (w : World) (hn : n ≤ 255) (hl : BoolV w w.heap.size v l) (hm : l.length ≤ maxLen) : Calls Try.prog 7 #[.int .u8 n, v] w fun e w' => e = .returned (.bool true) ∧ Below w.heap.size w w' := by
  obtain ⟨A, c, rfl, hll⟩ := hl
  have HL := Lib.hid hll
  obtain ⟨N, hN⟩ : ∃ N, l.length = N := ⟨_, rfl⟩
  have HN := Lib.hid hN
  obtain ⟨k, hk⟩ : ∃ k, n % 20 = k := ⟨_, rfl⟩
  have hk20 : k < 20 := by omega
  have e0 : ((n : Int)).tmod 20 = (k : Int) := by rw [← hk]; rfl
  unfold maxLen at hm
  rw [hN] at hm ⊢
  clear hk hll hN
  go_enter Try.func7, Try.ntmps7
  go_wp2_with fail
  refine (known15_any w).mono ?_
  rintro e w1 ⟨rfl, hb1⟩
  have B1 := Lib.hid hb1
  clear hb1
  by_cases hNk : N < k
  · go_wp2_with fail
    go_ret
    exact ⟨rfl, B1.out⟩
  · go_wp2_with fail
    refine (vNew_any w1 20).mono ?_
    rintro e w2 ⟨a, S, rfl, hr, hb, hlo⟩
    rw [show roomZ 20 = 20 from by decide] at hr
    have H2 : Hid (EnK w w2 a 0 0) := Lib.hid ⟨S, hr, fun i hi => Nat.le_trans B1.out.size (hlo i hi), nextB B1.out hb⟩
    clear hr hb hlo
    go_wp2_with fail
    go_loopw [7] (fun i wr => ∃ j : Nat, j ≤ k ∧ i = .int .i64 j ∧ EnK w wr a 0 j) (fun i _ => k - (intOf i).toNat)
    case atStart => exact ⟨0, Nat.zero_le _, rfl, H2.out⟩
    case round =>
      obtain ⟨j, hj, rfl, hv⟩ := hrel
      by_cases hjk : j < k
      · obtain ⟨S1, hr, hlo, hb⟩ := hv
        have HR := Lib.hid hr; have HLO := Lib.hid hlo; have HB := Lib.hid hb
        have hw32 : wrap32 (j : Int) = j := by unfold wrap32; omega
        have hd : (idsF 0 j).length < 20 := by rw [idsF_len]; omega
        have HD : Hid (decide ((idsF 0 j).length < 20) = true) := Lib.hid (by simpa using hd)
        clear hr hlo hb
        go_wp2_with fail
        refine (vPush_nil (t := idT (j : Int)) HR.out rfl).mono ?_
        rintro e w3 ⟨S2, rfl, hr, hst⟩
        rw [if_pos hd] at hr
        rw [HD.out]
        have HV : Hid (EnK w w3 a 0 (j + 1)) := Lib.hid ⟨S2, by rw [idsF_snoc, Nat.zero_add]; exact hr, hst.low HLO.out HB.out.size, HB.out.trans (hst.below HLO.out HB.out.size)⟩
        clear hr hst hd
        go_wp2_with fail
        go_roundw
        case rel => exact ⟨j + 1, by omega, by go_num, HV.out⟩
        case measure => simp [intOf]; omega
      · obtain rfl : k = j := by omega
        have HV := Lib.hid hv
        clear hv H2
        go_wp2_with fail
        go_loopw [8, 9, 10] (fun x y i wr => ∃ (j lo n : Nat) (h : Int), j + n = k ∧ lo ≤ j ∧ i = .int .i64 j ∧ x = .int .i64 lo ∧ y = .int .i64 h ∧ h = (lo : Int) + n - 1 ∧ EnK w wr a lo n) (fun _ _ i _ => k - (intOf i).toNat)
        case atStart => exact ⟨0, 0, k, _, by omega, Nat.le_refl _, rfl, rfl, rfl, by simp, HV.out⟩
        case round =>
          obtain ⟨j, lo, n, h, hjn, hlj, rfl, rfl, rfl, hh, hv⟩ := hrel
          by_cases hjk : j < k
          · obtain ⟨m, rfl⟩ : ∃ m, n = m + 1 := ⟨n - 1, by omega⟩
            obtain ⟨S1, hr, hlo, hb⟩ := hv
            obtain rfl : h = ((lo + m : Nat) : Int) := by omega
            obtain ⟨b, off, rfl, hbl, hc⟩ := lie_bool (HL.out.below hb) (k := j) (by rw [HN.out]; omega)
            have HR := Lib.hid hr; have HLO := Lib.hid hlo; have HB := Lib.hid hb
            have i1 : (0 : Int) ≤ (j : Int) ∧ (j : Int) < N := by omega
            obtain ⟨st, hst⟩ : ∃ st, l[j]'(by rw [HN.out]; omega) = st := ⟨_, rfl⟩
            rw [hst] at hc
            clear hr hlo hb hh hst
            cases st with
            | true =>
              go_wp2_with fail
              refine (vSteal_any (M := idsF (lo + 1) m) (t := idT (lo : Int)) HR.out).mono ?_
              rintro e w4 ⟨s4, T4, rfl, hs, _, hr, hst⟩
              obtain ⟨A4, n4, c4, rfl⟩ := hs.shape
              have H4 : Hid (EnK w w4 a (lo + 1) m) := Lib.hid (EnK.gone HLO.out HB.out hr hst)
              clear hr hst hs
              have HZ4 : Hid ((w4.alloc (.cells (taskA zT nilV) 51)).heap[w4.heap.size]? = some (.cells (taskA zT nilV) 51 (0, 0))) := Lib.hid (heap_alloc_new w4 _)
              obtain ⟨w5, hw5⟩ : ∃ x, x = (w4.alloc (.cells #[.int .i32 0, .int .i64 0, .int .i64 0, .slice none 0 0, .int .i32 0, .int .i32 0, .int .i32 0, .int .i32 0, .int .i64 0, .int .i64 0, .int .u32 0, .int .i64 0] 51)).setRow w4.heap.size (taskA (idT (lo : Int)) (.slice A4 n4 c4)) := ⟨_, rfl⟩
              have HX4 : Hid (w5.heap[w4.heap.size]? = some (.cells (taskA (idT (lo : Int)) (.slice A4 n4 c4)) 51 (0, 0))) := Lib.hid (by rw [hw5]; exact row_at HZ4.out _)
              have B4 : Hid (Below w4.heap.size w4 w5) := Lib.hid (by rw [hw5]; exact (below_alloc w4 _).trans (row_below (Nat.le_refl _)))
              have hs4 : w5.heap.size = w4.heap.size + 1 := by rw [hw5]; simp [World.setRow]
              have HW4 := Lib.hid hw5
              clear hw5
              have H5 := Lib.hid (H4.out.below B4.out)
              have x4 : w5.cell? ⟨w4.heap.size, 0, none⟩ = some (.int .i32 lo) := cell_blk HX4.out 0
              go_wp2_with (first | (refine store_task rfl _ _ rfl rfl w4.heap.size (idT (lo : Int)) (.slice A4 n4 c4) rfl rfl _ _ _ HZ4.out rfl ?_; rw [← HW4.out]) | fail)
              go_roundw
              case rel => exact ⟨j + 1, lo + 1, m, _, by omega, by omega, by go_num, by go_num, rfl, by omega, H5.out⟩
              case measure => simp [intOf]; omega
            | false =>
              go_wp2_with fail
              refine (vPop_any (M := idsF lo m) (t := idT ((lo + m : Nat) : Int)) (by rw [← idsF_snoc]; exact HR.out)).mono ?_
              rintro e w4 ⟨s4, T4, rfl, hs, _, hr, hst⟩
              obtain ⟨A4, n4, c4, rfl⟩ := hs.shape
              have H4 : Hid (EnK w w4 a lo m) := Lib.hid (EnK.gone HLO.out HB.out hr hst)
              clear hr hst hs
              have HZ4 : Hid ((w4.alloc (.cells (taskA zT nilV) 51)).heap[w4.heap.size]? = some (.cells (taskA zT nilV) 51 (0, 0))) := Lib.hid (heap_alloc_new w4 _)
              obtain ⟨w5, hw5⟩ : ∃ x, x = (w4.alloc (.cells #[.int .i32 0, .int .i64 0, .int .i64 0, .slice none 0 0, .int .i32 0, .int .i32 0, .int .i32 0, .int .i32 0, .int .i64 0, .int .i64 0, .int .u32 0, .int .i64 0] 51)).setRow w4.heap.size (taskA (idT ((lo + m : Nat) : Int)) (.slice A4 n4 c4)) := ⟨_, rfl⟩
              have HX4 : Hid (w5.heap[w4.heap.size]? = some (.cells (taskA (idT ((lo + m : Nat) : Int)) (.slice A4 n4 c4)) 51 (0, 0))) := Lib.hid (by rw [hw5]; exact row_at HZ4.out _)
              have B4 : Hid (Below w4.heap.size w4 w5) := Lib.hid (by rw [hw5]; exact (below_alloc w4 _).trans (row_below (Nat.le_refl _)))
              have hs4 : w5.heap.size = w4.heap.size + 1 := by rw [hw5]; simp [World.setRow]
              have HW4 := Lib.hid hw5
              clear hw5
              have H5 := Lib.hid (H4.out.below B4.out)
              have x4 : w5.cell? ⟨w4.heap.size, 0, none⟩ = some (.int .i32 ((lo + m : Nat) : Int)) := cell_blk HX4.out 0
              go_wp2_with (first | (refine store_task rfl _ _ rfl rfl w4.heap.size (idT ((lo + m : Nat) : Int)) (.slice A4 n4 c4) rfl rfl _ _ _ HZ4.out rfl ?_; rw [← HW4.out]) | fail)
              go_roundw
              case rel => exact ⟨j + 1, lo, m, _, by omega, by omega, by go_num, rfl, rfl, by omega, H5.out⟩
              case measure => simp [intOf]; omega
          · obtain rfl : n = 0 := by omega
            obtain rfl : k = j := by omega
            have H3 := Lib.hid hv
            obtain ⟨S1, hr, _, _⟩ := hv
            have HR : Hid (RgV wr S1 a 20 []) := Lib.hid hr
            clear hr
            go_wp2_with fail
            refine (vPop_no HR.out).mono ?_
            rintro e w4 ⟨rfl, hb4⟩
            have H4 := Lib.hid (H3.out.below hb4)
            have HR4 := Lib.hid (HR.out.below hb4)
            clear hb4
            have HZ4 : Hid ((w4.alloc (.cells (taskA zT nilV) 51)).heap[w4.heap.size]? = some (.cells (taskA zT nilV) 51 (0, 0))) := Lib.hid (heap_alloc_new w4 _)
            obtain ⟨w5, hw5⟩ : ∃ x, x = (w4.alloc (.cells #[.int .i32 0, .int .i64 0, .int .i64 0, .slice none 0 0, .int .i32 0, .int .i32 0, .int .i32 0, .int .i32 0, .int .i64 0, .int .i64 0, .int .u32 0, .int .i64 0] 51)).setRow w4.heap.size (taskA (zT) (nilV)) := ⟨_, rfl⟩
            have HX4 : Hid (w5.heap[w4.heap.size]? = some (.cells (taskA (zT) (nilV)) 51 (0, 0))) := Lib.hid (by rw [hw5]; exact row_at HZ4.out _)
            have B4 : Hid (Below w4.heap.size w4 w5) := Lib.hid (by rw [hw5]; exact (below_alloc w4 _).trans (row_below (Nat.le_refl _)))
            have hs4 : w5.heap.size = w4.heap.size + 1 := by rw [hw5]; simp [World.setRow]
            have HW4 := Lib.hid hw5
            clear hw5
            have H5 := Lib.hid (H4.out.below B4.out)
            have HR5 := Lib.hid (HR4.out.below B4.out)
            go_wp2_with (first | (refine store_task rfl _ _ rfl rfl w4.heap.size (zT) (nilV) rfl rfl _ _ _ HZ4.out rfl ?_; rw [← HW4.out]) | fail)
            refine (vSteal_no HR5.out).mono ?_
            rintro e w6 ⟨rfl, hb6⟩
            have H6 := Lib.hid (H5.out.below hb6)
            have HR6 := Lib.hid (HR5.out.below hb6)
            clear hb6
            have HZ6 : Hid ((w6.alloc (.cells (taskA zT nilV) 51)).heap[w6.heap.size]? = some (.cells (taskA zT nilV) 51 (0, 0))) := Lib.hid (heap_alloc_new w6 _)
            obtain ⟨w7, hw7⟩ : ∃ x, x = (w6.alloc (.cells #[.int .i32 0, .int .i64 0, .int .i64 0, .slice none 0 0, .int .i32 0, .int .i32 0, .int .i32 0, .int .i32 0, .int .i64 0, .int .i64 0, .int .u32 0, .int .i64 0] 51)).setRow w6.heap.size (taskA (zT) (nilV)) := ⟨_, rfl⟩
            have HX6 : Hid (w7.heap[w6.heap.size]? = some (.cells (taskA (zT) (nilV)) 51 (0, 0))) := Lib.hid (by rw [hw7]; exact row_at HZ6.out _)
            have B6 : Hid (Below w6.heap.size w6 w7) := Lib.hid (by rw [hw7]; exact (below_alloc w6 _).trans (row_below (Nat.le_refl _)))
            have hs6 : w7.heap.size = w6.heap.size + 1 := by rw [hw7]; simp [World.setRow]
            have HW6 := Lib.hid hw7
            clear hw7
            have H7 := Lib.hid (H6.out.below B6.out)
            have HR7 := Lib.hid (HR6.out.below B6.out)
            go_wp2_with (first | (refine store_task rfl _ _ rfl rfl w6.heap.size (zT) (nilV) rfl rfl _ _ _ HZ6.out rfl ?_; rw [← HW6.out]) | fail)
            refine (vLen_any HR7.out).mono ?_
            rintro e _ ⟨rfl, rfl⟩
            go_wp2_with fail
            go_ret
            obtain ⟨_, _, _, hb⟩ := H7.out
            exact ⟨rfl, hb⟩

/- The claim. -/

set_option maxRecDepth 100000 in
theorem lifted (os : Os) (started : os.Started) (H : Type) (enc : TypeId × Value → H) :
    ReturnsInHanded {} Try.checked os 7 .any (Rows.ringEndsSpec.pre6 enc Try.prog Try.f7 Rows.ringEndsRow.domain false) (Rows.ringEndsSpec.post enc Try.prog Try.f7 false true false false) := by
  refine returnsInHanded_of_change (C := Try.checked) ownKnobs started (by kernel_rfl) Try.func7
    (ChangeSpec.witness6 (enc := enc) (C := Try.checked) false ⟨#[], #[.int .u8 0, .slice none 0 0], []⟩ 8 (by kernel_rfl) (by kernel_rfl) (by kernel_rfl) (by kernel_rfl)) ?_
  intro W base args ds gs before hval hW _ _
  refine law_contract rfl rfl (fun ds h => by match ds, h with | [d1, d2], _ => rfl) (by decide +kernel) hW ?_
  obtain ⟨p, q, hA0, _⟩ := hW
  have hA : DataW.TrodAll enc Try.prog W 0 (fun _ => true) true Try.f7.params.toList args.toList ds p := hA0
  have hval' : ∀ (j : Nat) t v, Try.f7.params[j]? = some t → args[j]? = some v → Value.okWide Try.prog W .any base t v := hval
  rw [Try.params7] at hA hval'
  obtain ⟨v0, vs0, d0, ds0, p0, q0, hargs, rfl, rfl, h0, r0⟩ := trodAll_cons hA
  obtain ⟨v1, vs1, d1, ds1, p1, q1, rfl, rfl, rfl, h1, r1⟩ := trodAll_cons r0
  obtain ⟨rfl, rfl, rfl⟩ := trodAll_nil r1
  obtain rfl : args = #[v0, v1] := by cases args; simp_all
  obtain ⟨z0, rfl, rfl, rfl, w0⟩ := open_int Try.underlying5 (hval' 0 _ v0 rfl rfl) h0
  have b0 : 0 ≤ z0 ∧ z0 ≤ 255 := by simpa [Lit.wf, IntKind.min, IntKind.max, IntKind.signed, IntKind.bits] using w0
  obtain ⟨a0, rfl⟩ : ∃ n : Nat, z0 = n := ⟨z0.toNat, by omega⟩
  obtain ⟨l1, h1, m1⟩ := open_boolv (hval' 1 _ v1 rfl rfl) h1
  exact walk a0 v1 l1 W (by omega) h1 m1

theorem proved : Rows.RingEndsSaid :=
  OpenClaim.holds_of_wide 7 Try.f7 rfl rfl rfl rfl rfl rfl rfl ⟨rfl, rfl, rfl, rfl, rfl⟩ rfl rfl rfl rfl rfl (by kernel_rfl) Try.func7 (by kernel_rfl)
    (of_decide_eq_true (by kernel_rfl)) (by unfold Func.isWrapper; first | (rw [if_pos (by decide +kernel)]; kernel_rfl) | (rw [if_neg (by decide +kernel)]; exact ⟨rfl, rfl⟩))
    (fun os started H enc _ => lifted os started H enc)

end Go.Proofs.Ytlmbjnegajiphaa.ringEnds
