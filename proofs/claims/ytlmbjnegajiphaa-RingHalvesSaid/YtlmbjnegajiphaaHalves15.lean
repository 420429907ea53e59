/- RingHalves returns true for every input and changes nothing: half of a ring's tasks, taken again and again, are all of them. No condition. -/
import Derived.Test.YtlmbjnegajiphaaKnown15
import Derived.Test.YtlmbjnegajiphaaLaw
namespace Go.Proofs.Ytlmbjnegajiphaa.ringHalves
set_option maxRecDepth 100000
open Go.RowKit Go.ChangeShapes Go.WideShapes Go.ChangeAt

def idsL (k : Nat) : List TK := (List.range k).map fun m : Nat => idT (m : Int)
theorem ids_len (k : Nat) : (idsL k).length = k := by simp [idsL]
theorem ids_succ (k : Nat) : idsL (k + 1) = idsL k ++ [idT (k : Int)] := by simp [idsL, List.range_succ]
theorem ids_get {k m : Nat} (h : m < k) : (idsL k)[m]? = some (idT (m : Int)) := by simp [idsL, h]
/-- The id of a task in a list of the call's own. -/
theorem own_id {w : World} {base j : Nat} {A : Option Addr} {n c : Nat} {L : List SlotX} {x : SlotX} (h : OwnT w base (.slice A n c) L) (hx : L[j]? = some x) : ∃ g, A = some ⟨g, 0, none⟩ ∧ w.cell? ⟨g, j * 12, none⟩ = some (.int .i32 x.1.id) := by
  have hj : j < L.length := (List.getElem?_eq_some_iff.1 hx).1
  rcases h.2 with ⟨h1, h2⟩ | ⟨g, cap, cur, hv, _, hg, _, _, hcur, ht⟩
  · omega
  · injection hv with h1 h2 h3
    refine ⟨g, h1, ?_⟩
    rw [cell_of_row w g _ cur _ _ hg]
    have h4 := rowE_get slotA_size hx (j := 0) (u := .int .i32 x.1.id) rfl
    rw [← ht, Nat.add_zero, List.getElem?_take_of_lt (by omega)] at h4
    simpa using h4
def HvK (w wr : World) (a k at' q : Nat) : Prop := ∃ S, RgV wr S a 64 ((idsL k).drop at') ∧ (∀ i, S i → w.heap.size ≤ i) ∧ Below w.heap.size w wr ∧ at' ≤ k ∧ k - at' = q
set_option maxRecDepth 100000 in
set_option maxHeartbeats 8000000 in
theorem walk (n : Nat) (w : World) (hn : n ≤ 255) : Calls Try.prog 9 #[.int .u8 n] w fun e w' => e = .returned (.bool true) ∧ Below w.heap.size w w' := by
  obtain ⟨k, hk⟩ : ∃ k, n % 64 = k := ⟨_, rfl⟩
  have hk64 : k < 64 := by omega
  have e0 : ((n : Int)).tmod 64 = (k : Int) := by rw [← hk]; rfl
  clear hk
  go_enter Try.func9, Try.ntmps9
  go_wp2_with fail
  refine (known15_any w).mono ?_
  rintro e w1 ⟨rfl, hb1⟩
  have B1 := Lib.hid hb1
  clear hb1
  go_wp2_with fail
  refine (vNew_any w1 64).mono ?_
  rintro e w2 ⟨a, S, rfl, hr, hb, hlo⟩
  rw [show roomZ 64 = 64 from by decide] at hr
  have H2 : Hid (HvK w w2 a 0 0 0) := Lib.hid ⟨S, hr, fun i hi => Nat.le_trans B1.out.size (hlo i hi), nextB B1.out hb, Nat.le_refl _, rfl⟩
  clear hr hb hlo
  go_wp2_with fail
  go_loopw [5] (fun i wr => ∃ j : Nat, j ≤ k ∧ i = .int .i64 j ∧ HvK w wr a j 0 j) (fun i _ => k - (intOf i).toNat)
  case atStart => exact ⟨0, Nat.zero_le _, rfl, H2.out⟩
  case round =>
    obtain ⟨j, hj, rfl, hv⟩ := hrel
    by_cases hjk : j < k
    · obtain ⟨S1, hr, hlo, hb, _, _⟩ := hv
      have HR := Lib.hid hr; have HLO := Lib.hid hlo; have HB := Lib.hid hb
      have hw32 : wrap32 (j : Int) = j := by unfold wrap32; omega
      clear hr hlo hb
      go_wp2_with fail
      refine (vPush_nil (t := idT (j : Int)) HR.out rfl).mono ?_
      rintro e w3 ⟨S2, rfl, hr, hst⟩
      have hd : (List.drop 0 (idsL j)).length < 64 := by simp [ids_len]; omega
      rw [if_pos hd] at hr
      have HV : Hid (HvK w w3 a (j + 1) 0 (j + 1)) := Lib.hid ⟨S2, by rw [List.drop_zero, ids_succ]; exact hr, hst.low HLO.out HB.out.size, HB.out.trans (hst.below HLO.out HB.out.size), Nat.zero_le _, rfl⟩
      clear hr hst hd
      go_wp2_with fail
      go_roundw
      case rel => exact ⟨j + 1, by omega, by go_num, HV.out⟩
      case measure => simp [intOf]; omega
    · obtain rfl : k = j := by omega
      have HV := Lib.hid hv
      clear hv H2
      go_wp2_with fail
      go_loopw [6, 7] (fun t i wr => ∃ j at' : Nat, j ≤ 10 ∧ i = .int .i64 j ∧ t = .int .i64 at' ∧ HvK w wr a k at' (k / 2 ^ j)) (fun _ i _ => 10 - (intOf i).toNat)
      case atStart => exact ⟨0, 0, Nat.zero_le _, rfl, rfl, by simpa using HV.out⟩
      case round =>
        obtain ⟨j, at', hj, rfl, rfl, hv⟩ := hrel
        obtain ⟨S1, hr, hlo, hb, hat, hq⟩ := hv
        have HR := Lib.hid hr; have HLO := Lib.hid hlo; have HB := Lib.hid hb; have HQ := Lib.hid hq
        clear hr hlo hb hq
        by_cases hjk : j < 10
        · go_wp2_with fail
          refine (vHalf_any HR.out).mono ?_
          rintro e w3 ⟨v, L', T, rfl, ho, hl, hst, _, hr, hs⟩
          obtain ⟨A, c, rfl⟩ := ho.shape
          have hln : ((idsL k).drop at').length = k - at' := by rw [List.length_drop, ids_len]
          rw [hln] at hl hr
          obtain ⟨h, hh⟩ : ∃ h, (k - at' + 1) / 2 = h := ⟨_, rfl⟩
          rw [hh] at hl hr
          have hle : at' + h ≤ k := by omega
          have hlen : L'.length = h := by
            have := congrArg List.length hl
            rw [List.length_map, List.length_take, hln] at this; omega
          have HID : Hid (∀ m, m < h → ∃ g, A = some ⟨g, 0, none⟩ ∧ w3.cell? ⟨g, m * 12, none⟩ = some (.int .i32 ((at' : Int) + m))) := Lib.hid (fun m hm => by
            obtain ⟨x, hx⟩ : ∃ x, L'[m]? = some x := ⟨_, List.getElem?_eq_getElem (by omega)⟩
            obtain ⟨g, h1, h2⟩ := own_id ho hx
            refine ⟨g, h1, ?_⟩
            have h3 := congrArg (fun z => z[m]?) hl
            simp only [List.getElem?_map, hx, Option.map_some, List.getElem?_take_of_lt hm, List.getElem?_drop] at h3
            rw [ids_get (by omega)] at h3
            injection h3 with h3
            rw [h2, h3]; simp [idT])
          have HV3 : Hid (HvK w w3 a k (at' + h) (k / 2 ^ (j + 1))) := Lib.hid ⟨S1, by rw [List.drop_drop] at hr; exact hr, HLO.out, HB.out.trans (hs.below HLO.out HB.out.size), hle, by
            have := HQ.out
            rw [Nat.pow_succ, ← Nat.div_div_eq_div_mul, ← this]; omega⟩
          rw [hlen]
          have e2 : ((k : Int) - at' + 1).tdiv 2 = (h : Int) := by
            rw [show ((k : Int) - at' + 1) = ((k - at' + 1 : Nat) : Int) from by omega, ← hh]; rfl
          clear ho hl hst hr hs hln hh hlen
          go_wp2_with fail
          go_loopw [6, 9] (fun t i wr => ∃ m : Nat, m ≤ h ∧ i = .int .i64 m ∧ t = .int .i64 ((at' : Int) + m) ∧ wr = w3) (fun _ i _ => h - (intOf i).toNat)
          case atStart => exact ⟨0, Nat.zero_le _, rfl, by simp, rfl⟩
          case round =>
            obtain ⟨m, hm, rfl, rfl, rfl⟩ := hrel
            by_cases hmh : m < h
            · obtain ⟨g, rfl, hc⟩ := HID.out m hmh
              have i1 : (0 : Int) ≤ (m : Int) ∧ (m : Int) < h := by omega
              go_wp2_with fail
              go_roundw
              case rel => exact ⟨m + 1, by omega, by go_num, by go_num, by trivial⟩
              case measure => simp [intOf]; omega
            · obtain rfl : h = m := by omega
              go_wp2_with fail
              go_roundw
              case rel => exact ⟨j + 1, at' + h, by omega, by go_num, by go_num, HV3.out⟩
              case measure => simp [intOf]; omega
        · obtain rfl : j = 10 := by omega
          have hat2 : at' = k := by have := HQ.out; omega
          subst hat2
          have hlf : ((idsL at').drop at').length = 0 := by rw [List.length_drop, ids_len]; omega
          go_wp2_with fail
          refine (vLen_any HR.out).mono ?_
          rintro e _ ⟨rfl, rfl⟩
          rw [hlf]
          go_wp2_with fail
          go_ret
          exact ⟨rfl, HB.out⟩

/- The claim. -/

set_option maxRecDepth 100000 in
theorem lifted (os : Os) (started : os.Started) (H : Type) (enc : TypeId × Value → H) :
    ReturnsInHanded {} Try.checked os 9 .any (Rows.ringHalvesSpec.pre6 enc Try.prog Try.f9 Rows.ringHalvesRow.domain false) (Rows.ringHalvesSpec.post enc Try.prog Try.f9 false true false false) := by
  refine returnsInHanded_of_change (C := Try.checked) ownKnobs started (by kernel_rfl) Try.func9
    (ChangeSpec.witness6 (enc := enc) (C := Try.checked) false ⟨#[], #[.int .u8 0], []⟩ 8 (by kernel_rfl) (by kernel_rfl) (by kernel_rfl) (by kernel_rfl)) ?_
  intro W base args ds gs before hval hW _ _
  refine law_contract rfl rfl (fun ds h => by match ds, h with | [d1], _ => rfl) (by decide +kernel) hW ?_
  obtain ⟨p, q, hA0, _⟩ := hW
  have hA : DataW.TrodAll enc Try.prog W 0 (fun _ => true) true Try.f9.params.toList args.toList ds p := hA0
  have hval' : ∀ (j : Nat) t v, Try.f9.params[j]? = some t → args[j]? = some v → Value.okWide Try.prog W .any base t v := hval
  rw [Try.params9] at hA hval'
  obtain ⟨v0, vs0, d0, ds0, p0, q0, hargs, rfl, rfl, h0, r0⟩ := trodAll_cons hA
  obtain ⟨rfl, rfl, rfl⟩ := trodAll_nil r0
  obtain rfl : args = #[v0] := by cases args; simp_all
  obtain ⟨z0, rfl, rfl, rfl, w0⟩ := open_int Try.underlying5 (hval' 0 _ v0 rfl rfl) h0
  have b0 : 0 ≤ z0 ∧ z0 ≤ 255 := by simpa [Lit.wf, IntKind.min, IntKind.max, IntKind.signed, IntKind.bits] using w0
  obtain ⟨a0, rfl⟩ : ∃ n : Nat, z0 = n := ⟨z0.toNat, by omega⟩
  exact walk a0 W (by omega)

theorem proved : Rows.RingHalvesSaid :=
  OpenClaim.holds_of_wide 9 Try.f9 rfl rfl rfl rfl rfl rfl rfl ⟨rfl, rfl, rfl, rfl, rfl⟩ rfl rfl rfl rfl rfl (by kernel_rfl) Try.func9 (by kernel_rfl)
    (of_decide_eq_true (by kernel_rfl)) (by unfold Func.isWrapper; first | (rw [if_pos (by decide +kernel)]; kernel_rfl) | (rw [if_neg (by decide +kernel)]; exact ⟨rfl, rfl⟩))
    (fun os started H enc _ => lifted os started H enc)

end Go.Proofs.Ytlmbjnegajiphaa.ringHalves
