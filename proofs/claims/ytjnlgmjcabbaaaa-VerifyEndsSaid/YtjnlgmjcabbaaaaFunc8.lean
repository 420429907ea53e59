/- The walks of boundsOf, Func and Depths of package verify. -/
import Derived.Test.YtjnlgmjcabbaaaaFollow8
import Derived.Laws.ResultCell
import Derived.Laws.Rows
import Derived.KernelRfl
namespace Go.Proofs.Ytjnlgmjcabbaaaa
set_option maxRecDepth 100000
open Go.RowKit

theorem info_bounds : (Try.prog.info? 91).map (·.size) = some 7 := by kernel_rfl
theorem ret_bounds {fn : Func} {R : Ending → World → Prop} {a : Act} {w : World} {p g t : Nat} {x0 x1 x2 x3 x4 x5 x6 : Value} {fr : Nat × Nat} (h : fn.results = #[.cell p 91]) (hd : a.defers = [])
    (hp : a.tmps.getD p undef = .pointer (some ⟨g, 0, none⟩)) (hg : w.heap[g]? = some (.cells #[x0, x1, x2, x3, x4, x5, x6] t fr)) (hR : R (.returned (.agg #[x0, x1, x2, x3, x4, x5, x6])) w) : bodyPost Try.prog fn R .ret a w := by
  refine bodyPost_ret ?_ hd hR
  exact results_cell_row h a.tmps w g t #[x0, x1, x2, x3, x4, x5, x6] fr _ hp hg Try.underlying91 rfl info_bounds

set_option maxRecDepth 100000 in
set_option maxHeartbeats 4000000 in
theorem boundsOf_any (p fs ls gs : Int) (w : World) : Calls Try.prog 54 #[.int .i64 p, .int .i64 fs, .int .i64 ls, .int .i64 gs] w fun e w' => e = .returned (.agg (bndA p fs ls gs)) ∧ Below w.heap.size w w' := by
  unfold bndA
  go_enter Try.func54, Try.ntmps54
  go_wp2_with fail
  exact ret_bounds rfl rfl rfl (heap_alloc_new w _) ⟨rfl, below_alloc _ _⟩

theorem leads_of {f : CodeL} {fs ls gs : Int} (h : invalidO f fs ls gs = none) : Leads f := by
  intro k hk hop
  have hb := firstO_none _ _ _ h k (Nat.zero_le _) (by omega)
  unfold badI at hb
  rw [Bool.or_eq_false_iff, Bool.not_eq_false', decide_eq_false_iff_not] at hb
  obtain ⟨h1, h2⟩ := hb
  have hz : argZ (cop f k) = 2 := by rcases hop with e | e <;> rw [e] <;> rfl
  unfold rightB at h1
  rw [hz, Bool.and_eq_true] at h1
  rw [hz] at h2
  have h3 := h1.2
  rw [if_neg (by decide)] at h3
  have h4 : boundZ f.length fs ls gs 2 = f.length := rfl
  rw [h4] at h2
  have h5 : ((2 : Int) == 1) = false := rfl
  rw [h5, Bool.or_false, decide_eq_true_eq] at h3
  omega

set_option maxRecDepth 100000 in
set_option maxHeartbeats 8000000 in
theorem func_any (f : CodeL) (v : Value) (fs ls gs : Int) (w : World) (hv : RowI w w.heap.size v f) (hlen : f.length ≤ 100000) :
    Calls Try.prog 19 #[v, .int .i64 fs, .int .i64 ls, .int .i64 gs] w fun e w' => e = .returned (.tuple #[.int .i64 (funcZ f fs ls gs).1, .int .i64 (funcZ f fs ls gs).2]) ∧ Below w.heap.size w w' := by
  have HV := Lib.hid hv
  obtain ⟨A, c, rfl, _, _⟩ := hv
  obtain ⟨n, hn⟩ : ∃ n, f.length = n := ⟨_, rfl⟩
  have HN := Lib.hid hn
  obtain ⟨rz, hrz⟩ : ∃ rz, funcZ f fs ls gs = rz := ⟨_, rfl⟩
  have HRZ := Lib.hid hrz
  rw [hrz]
  rw [hn] at hlen HV ⊢
  by_cases h1 : 512 < n
  · have HX : Hid (rz = (0, 22)) := Lib.hid (by rw [← hrz]; unfold funcZ; rw [if_pos (by rw [hn]; exact h1)])
    clear hrz hn
    go_enter Try.func19, Try.ntmps19
    go_wp2_with fail
    go_ret2
    rw [HX.out]
    exact ⟨rfl, Below.refl _ _⟩
  · by_cases h2 : n = 0
    · have HX : Hid (rz = (0, 24)) := Lib.hid (by rw [← hrz]; unfold funcZ; rw [if_neg (by rw [hn]; exact h1), if_pos (by rw [hn]; exact h2)])
      have e2 : ((n : Int) == 0) = true := by simp; omega
      clear hrz hn h2
      go_enter Try.func19, Try.ntmps19
      go_wp2_with fail
      go_ret2
      rw [HX.out]
      exact ⟨rfl, Below.refl _ _⟩
    · have e2 : ((n : Int) == 0) = false := by simp; omega
      have HX : Hid (rz = resZ (invalidO f fs ls gs) (badO f)) := Lib.hid (by rw [← hrz]; unfold funcZ; rw [if_neg (by rw [hn]; exact h1), if_neg (by rw [hn]; exact h2)])
      have HI : Hid (∀ w', RowI w' w'.heap.size (.slice A n c) f → Calls Try.prog 53 #[.slice A n c, .agg (bndA n fs ls gs)] w' fun e w'' =>
          e = .returned (.tuple #[.int .i64 ((invalidO f fs ls gs).getD 0 : Nat), .bool (invalidO f fs ls gs).isSome]) ∧ Below w'.heap.size w' w'') := Lib.hid (by
        intro w' hr; have := firstInvalid_any f fs ls gs _ w' hr (by omega); rwa [hn] at this)
      have H1 := Lib.hid h1; have H2 := Lib.hid h2
      clear hrz hn h2
      go_enter Try.func19, Try.ntmps19
      go_wp2_with fail
      refine (boundsOf_any n fs ls gs w).mono ?_
      rintro e w1 ⟨rfl, hb1⟩
      have HV1 := Lib.hid (HV.out.later hb1); have B1 := Lib.hid hb1
      clear hb1 HV
      go_wp2_with fail
      refine (HI.out w1 HV1.out).mono ?_
      rintro e w2 ⟨rfl, hb2⟩
      have HV2 := Lib.hid (HV1.out.later hb2); have B2 := Lib.hid (nextB B1.out hb2)
      clear hb2 HV1 B1 HI
      cases ho : invalidO f fs ls gs with
      | some k =>
        have HXX : Hid (rz = ((k : Int), 24)) := Lib.hid (by rw [HX.out, ho]; rfl)
        clear HX ho
        simp only [Option.getD_some, Option.isSome_some]
        go_wp2_with fail
        go_ret2
        rw [HXX.out]
        exact ⟨rfl, B2.out⟩
      | none =>
        have HXX : Hid (rz = resZ none (badO f)) := Lib.hid (by rw [HX.out, ho])
        have HLD := Lib.hid (leads_of ho)
        clear HX ho
        simp only [Option.getD_none, Option.isSome_none]
        go_wp2_with fail
        refine (follow_any f (.slice A n c) w2 HV2.out (by have := HN.out; have := H2.out; omega) (by have := HN.out; have := H1.out; omega) HLD.out).mono ?_
        rintro e w3 ⟨m, rfl, hf, hmn, _, hb3⟩
        have B3 := Lib.hid (nextB B2.out hb3)
        have HF := Lib.hid hf
        have HMN := Lib.hid hmn
        have HBO : Hid (firstO (fun k => (followF f).Bd.getD k false) 0 m.n = badO f) := Lib.hid (by rw [hmn]; rfl)
        clear hf hmn hb3 B2 HV2
        go_wp2_with fail
        refine (firstBad_any m (followF f) w3 HF.out (by have := HMN.out; have := HN.out; omega)).mono ?_
        rw [HBO.out]
        rintro e w4 ⟨rfl, rfl⟩
        cases ho : badO f with
        | some k =>
          have HXXX : Hid (rz = ((k : Int), 24)) := Lib.hid (by rw [HXX.out, ho]; rfl)
          clear HXX ho
          simp only [Option.getD_some, Option.isSome_some]
          go_wp2_with fail
          go_ret2
          rw [HXXX.out]
          exact ⟨rfl, B3.out⟩
        | none =>
          have HXXX : Hid (rz = (0, 0)) := Lib.hid (by rw [HXX.out, ho]; rfl)
          clear HXX ho
          simp only [Option.getD_none, Option.isSome_none]
          go_wp2_with fail
          go_ret2
          rw [HXXX.out]
          exact ⟨rfl, B3.out⟩

theorem valid_of {f : CodeL} {fs ls gs : Int} (h : (funcZ f fs ls gs).2 = 0) : f.length ≤ 512 ∧ 0 < f.length ∧ Leads f := by
  unfold funcZ at h
  split at h
  · exact absurd h (by decide)
  · split at h
    · exact absurd h (by decide)
    · rename_i h1 h2
      cases h3 : invalidO f fs ls gs with
      | some k => rw [h3] at h; exact absurd h (by simp [resZ])
      | none => exact ⟨by omega, by omega, leads_of h3⟩

set_option maxRecDepth 100000 in
set_option maxHeartbeats 8000000 in
theorem depths_any (f : CodeL) (v : Value) (w : World) (hv : RowI w w.heap.size v f) (hlen : f.length ≤ 100000) :
    Calls Try.prog 22 #[v] w fun e w' => (∃ v, e = .returned v ∧ IntsV w' w'.heap.size v (depthsZ f)) ∧ Below w.heap.size w w' := by
  have HV := Lib.hid hv
  obtain ⟨A, c, rfl, _, _⟩ := hv
  obtain ⟨n, hn⟩ : ∃ n, f.length = n := ⟨_, rfl⟩
  obtain ⟨rz, hrz⟩ : ∃ rz, funcZ f 9223372036854775807 9223372036854775807 9223372036854775807 = rz := ⟨_, rfl⟩
  have HD : Hid (depthsZ f = if rz.2 = 0 then (followF f).D else []) := Lib.hid (by unfold depthsZ; rw [hrz])
  have HRZ := Lib.hid hrz; have HN := Lib.hid hn
  have HF : Hid (∀ w', RowI w' w'.heap.size (.slice A n c) f → Calls Try.prog 19 #[.slice A n c, .int .i64 9223372036854775807, .int .i64 9223372036854775807, .int .i64 9223372036854775807] w' fun e w'' => e = .returned (.tuple #[.int .i64 rz.1, .int .i64 rz.2]) ∧ Below w'.heap.size w' w'') := Lib.hid (fun w' hr => by
    rw [← hrz]; exact func_any f _ _ _ _ w' hr hlen)
  rw [hn] at HV ⊢
  clear hrz hn
  go_enter Try.func22, Try.ntmps22
  go_wp2_with fail
  refine (HF.out w HV.out).mono ?_
  rintro e w1 ⟨rfl, hb1⟩
  have HV1 := Lib.hid (HV.out.later hb1); have B1 := Lib.hid hb1
  clear hb1 HV HF
  obtain ⟨r1, r2⟩ := rz
  by_cases h0 : r2 = 0
  · subst h0
    have HDD : Hid (depthsZ f = (followF f).D) := Lib.hid (by rw [HD.out, if_pos rfl])
    obtain ⟨v1, v2, v3⟩ := valid_of (f := f) (by rw [HRZ.out])
    have V1 := Lib.hid v1; have V2 := Lib.hid v2; have V3 := Lib.hid v3
    clear v1 v2 v3 HD
    go_wp2_with fail
    refine (follow_any f (.slice A n c) w1 HV1.out V2.out V1.out V3.out).mono ?_
    rintro e w3 ⟨m, rfl, ⟨wv, hf⟩, hmn, _, hb3⟩
    have B3 := Lib.hid (nextB B1.out hb3)
    have c1 := hf.c1
    have HFL := Lib.hid hf
    clear hf hb3 hmn B1 HV1
    go_wp2_with fail
    go_ret
    rw [HDD.out]
    refine ⟨⟨_, rfl, ⟨some ⟨m.gd, 0, none⟩, m.cap, by rw [HFL.out.len.1]; rfl, fun hl => ⟨m.gd, 0, rfl, HFL.out.lt.2.1, fun j u hu => ?_⟩⟩⟩, B3.out⟩
    have hj : j < m.n := by
      rw [← HFL.out.len.1]
      have := (List.getElem?_eq_some_iff.1 hu).1
      simpa [i64s] using this
    have h1 := HFL.out.cd hj
    rw [Nat.zero_add, h1]
    have : (i64s (followF f).D)[j]? = some (.int .i64 ((followF f).D.getD j 0)) := by
      rw [List.getD_eq_getElem?_getD]
      simp only [i64s, List.getElem?_map]
      rw [List.getElem?_eq_getElem (by rw [HFL.out.len.1]; exact hj)]; rfl
    rw [← hu, this]
  · have HDD : Hid (depthsZ f = []) := Lib.hid (by rw [HD.out, if_neg h0])
    have e0 : (r2 != 0) = true := by simpa using h0
    clear HD
    go_wp2_with fail
    go_ret
    rw [HDD.out]
    exact ⟨⟨_, rfl, ⟨none, 0, rfl, Lies.nil⟩⟩, B1.out⟩

end Go.Proofs.Ytjnlgmjcabbaaaa
