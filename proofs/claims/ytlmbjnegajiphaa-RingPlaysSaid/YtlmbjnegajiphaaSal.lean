/- SameAll: two lists of the same tasks. -/
import Derived.Test.YtlmbjnegajiphaaSame10
import Derived.Test.YtlmbjnegajiphaaStk
import Derived.Test.YtlmbjnegajiphaaApq
namespace Go.Proofs.Ytlmbjnegajiphaa
set_option maxRecDepth 100000
open Go.RowKit

theorem rangeAt_below {w w' : World} {g off : Nat} {xs : List Value} (h : w.rangeAt g off xs) (hb : Below w.heap.size w w') : w'.rangeAt g off xs := fun i u hu => by
  have h1 := h i u hu
  rw [hb.cell (p := ⟨g, off + i, none⟩) (World.block_lt_of_cell? w _ h1)]; exact h1
/-- A slice of tasks in memory: their cells, and their stacks. -/
def TasksV (w : World) (v : Value) (L : List SlotX) : Prop := ∃ A c, v = .slice A L.length c ∧ ∀ j (hj : j < L.length), (∃ g off, A = some ⟨g, off, none⟩ ∧ w.rangeAt g (off + j * 12) (slotA L[j]).toList) ∧ I32V w w.heap.size L[j].2 L[j].1.st ∧ L[j].1.st.length ≤ 1000
theorem TasksV.later {w w' : World} {v : Value} {L : List SlotX} (h : TasksV w v L) (hb : Below w.heap.size w w') : TasksV w' v L := by
  obtain ⟨A, c, e, h⟩ := h
  refine ⟨A, c, e, fun j hj => ?_⟩
  obtain ⟨⟨g, off, e1, e2⟩, h1, h2⟩ := h j hj
  exact ⟨⟨g, off, e1, rangeAt_below e2 hb⟩, h1.later hb, h2⟩
theorem own_range {w : World} {base : Nat} {v : Value} {L : List SlotX} (h : OwnT w base v L) : ∃ A c, v = .slice A L.length c ∧ ∀ j (hj : j < L.length), ∃ g, A = some ⟨g, 0, none⟩ ∧ w.rangeAt g (j * 12) (slotA L[j]).toList := by
  obtain ⟨A, c, hv⟩ := h.shape
  refine ⟨A, c, hv, fun j hj => ?_⟩
  rcases h.2 with ⟨h1, h2⟩ | ⟨g, cap, _, hv2, _⟩
  · omega
  · rw [hv] at hv2
    injection hv2 with e1 _ _
    refine ⟨g, e1, fun i u hu => ?_⟩
    have h1 := rowE_get slotA_size (List.getElem?_eq_getElem hj) (j := i) (u := u) (by simpa using hu)
    have h2 := h.cells (g := g) (by rw [hv, e1]; rfl) _ _ h1
    have ea : (⟨g, 0, none⟩ : Addr).add (j * 12 + i) = ⟨g, j * 12 + i, none⟩ := by unfold Addr.add; split <;> simp_all
    rwa [ea] at h2
theorem TasksV.of_own {w : World} {base : Nat} {v : Value} {L : List SlotX} (h : OwnT w base v L) (hs : ∀ x ∈ L, I32V w w.heap.size x.2 x.1.st ∧ x.1.st.length ≤ 1000) : TasksV w v L := by
  obtain ⟨A, c, e, hr⟩ := own_range h
  refine ⟨A, c, e, fun j hj => ?_⟩
  obtain ⟨g, e1, e2⟩ := hr j hj
  exact ⟨⟨g, 0, e1, by rw [Nat.zero_add]; exact e2⟩, hs _ (List.getElem_mem hj)⟩

set_option maxRecDepth 100000 in
set_option maxHeartbeats 8000000 in
theorem refSameAll_any {w : World} {v1 v2 : Value} {L1 L2 : List SlotX} (h1 : TasksV w v1 L1) (h2 : TasksV w v2 L2) (he : L1.map Prod.fst = L2.map Prod.fst) (hm : L1.length ≤ 100000) :
    Calls Try.prog 45 #[v1, v2] w fun e w' => e = .returned (.bool true) ∧ Below w.heap.size w w' := by
  have hl : L2.length = L1.length := by have := congrArg List.length he; simpa using this.symm
  obtain ⟨A1, c1, rfl, h1⟩ := h1
  obtain ⟨A2, c2, rfl, h2⟩ := h2
  have H1 := Lib.hid h1; have H2 := Lib.hid h2; have HE := Lib.hid he
  obtain ⟨N, hN⟩ : ∃ N, L1.length = N := ⟨_, rfl⟩
  have HL := Lib.hid hl
  have HN := Lib.hid hN
  rw [hl, hN]
  have hNm : N ≤ 100000 := by omega
  clear h1 h2 he hl hN hm
  go_enter Try.func45, Try.ntmps45
  go_wp2_with fail
  go_loopw [5] (fun i wr => ∃ j : Nat, j ≤ N ∧ i = .int .i64 j ∧ Below w.heap.size w wr) (fun i _ => N - (intOf i).toNat)
  case atStart => exact ⟨0, Nat.zero_le _, rfl, Below.refl _ _⟩
  case round =>
    obtain ⟨j, hj, rfl, hb⟩ := hrel
    have HB := Lib.hid hb
    by_cases hjn : j < N
    · have hj1 : j < L1.length := by rw [HN.out]; exact hjn
      have hj2 : j < L2.length := by rw [HL.out]; exact hj1
      obtain ⟨⟨g1, o1, e1, r1⟩, i1, m1⟩ := H1.out j hj1
      obtain ⟨⟨g2, o2, e2, r2⟩, i2, m2⟩ := H2.out j hj2
      have heq : L1[j].1 = L2[j].1 := by
        have h3 : (L1.map Prod.fst)[j]? = (L2.map Prod.fst)[j]? := by rw [HE.out]
        rw [List.getElem?_map, List.getElem?_map, List.getElem?_eq_getElem hj1, List.getElem?_eq_getElem hj2] at h3
        exact Option.some.inj h3
      generalize L1[j] = x1 at *
      generalize L2[j] = x2 at *
      obtain ⟨t, s1⟩ := x1
      obtain ⟨t', s2⟩ := x2
      obtain rfl : t = t' := heq
      subst e1
      subst e2
      have R1 := Lib.hid (rangeAt_below r1 hb)
      have R2 := Lib.hid (rangeAt_below r2 hb)
      have HS := Lib.hid (fun w' (h : Below wr.heap.size wr w') => refSame_any t t s1 s2 w' ((i1.later hb).later h) ((i2.later hb).later h) m1)
      rw [sameB_self] at HS
      dsimp only at i1 i2 m1 m2 r1 r2
      obtain ⟨B1, k1, rfl, _, _⟩ := i1
      obtain ⟨B2, k2, rfl, _, _⟩ := i2
      generalize t.st.length = m at *
      simp only [taskV, taskA] at HS
      have i0 : (0 : Int) ≤ (j : Int) ∧ (j : Int) < N := by omega
      have d0 : wr.cell? ⟨g1, o1 + j * 12, none⟩ = some (.int .i32 t.id) := R1.out 0 _ rfl
      have d1 : wr.cell? ⟨g1, o1 + j * 12 + 1, none⟩ = some (.int .i64 t.fn) := R1.out 1 _ rfl
      have d2 : wr.cell? ⟨g1, o1 + j * 12 + 2, none⟩ = some (.int .i64 t.pc) := R1.out 2 _ rfl
      have d3 : wr.cell? ⟨g1, o1 + j * 12 + 3, none⟩ = some (.slice B1 m k1) := R1.out 3 _ rfl
      have d4 : wr.cell? ⟨g1, o1 + j * 12 + 4, none⟩ = some (.int .i32 t.v0) := R1.out 4 _ rfl
      have d5 : wr.cell? ⟨g1, o1 + j * 12 + 5, none⟩ = some (.int .i32 t.v1) := R1.out 5 _ rfl
      have d6 : wr.cell? ⟨g1, o1 + j * 12 + 6, none⟩ = some (.int .i32 t.v2) := R1.out 6 _ rfl
      have d7 : wr.cell? ⟨g1, o1 + j * 12 + 7, none⟩ = some (.int .i32 t.v3) := R1.out 7 _ rfl
      have d8 : wr.cell? ⟨g1, o1 + j * 12 + 8, none⟩ = some (.int .i64 t.lb) := R1.out 8 _ rfl
      have d9 : wr.cell? ⟨g1, o1 + j * 12 + 9, none⟩ = some (.int .i64 t.cl) := R1.out 9 _ rfl
      have d10 : wr.cell? ⟨g1, o1 + j * 12 + 10, none⟩ = some (.int .u32 t.pv) := R1.out 10 _ rfl
      have d11 : wr.cell? ⟨g1, o1 + j * 12 + 11, none⟩ = some (.int .i64 t.wk) := R1.out 11 _ rfl
      have q0 : wr.cell? ⟨g2, o2 + j * 12, none⟩ = some (.int .i32 t.id) := R2.out 0 _ rfl
      have q1 : wr.cell? ⟨g2, o2 + j * 12 + 1, none⟩ = some (.int .i64 t.fn) := R2.out 1 _ rfl
      have q2 : wr.cell? ⟨g2, o2 + j * 12 + 2, none⟩ = some (.int .i64 t.pc) := R2.out 2 _ rfl
      have q3 : wr.cell? ⟨g2, o2 + j * 12 + 3, none⟩ = some (.slice B2 m k2) := R2.out 3 _ rfl
      have q4 : wr.cell? ⟨g2, o2 + j * 12 + 4, none⟩ = some (.int .i32 t.v0) := R2.out 4 _ rfl
      have q5 : wr.cell? ⟨g2, o2 + j * 12 + 5, none⟩ = some (.int .i32 t.v1) := R2.out 5 _ rfl
      have q6 : wr.cell? ⟨g2, o2 + j * 12 + 6, none⟩ = some (.int .i32 t.v2) := R2.out 6 _ rfl
      have q7 : wr.cell? ⟨g2, o2 + j * 12 + 7, none⟩ = some (.int .i32 t.v3) := R2.out 7 _ rfl
      have q8 : wr.cell? ⟨g2, o2 + j * 12 + 8, none⟩ = some (.int .i64 t.lb) := R2.out 8 _ rfl
      have q9 : wr.cell? ⟨g2, o2 + j * 12 + 9, none⟩ = some (.int .i64 t.cl) := R2.out 9 _ rfl
      have q10 : wr.cell? ⟨g2, o2 + j * 12 + 10, none⟩ = some (.int .u32 t.pv) := R2.out 10 _ rfl
      have q11 : wr.cell? ⟨g2, o2 + j * 12 + 11, none⟩ = some (.int .i64 t.wk) := R2.out 11 _ rfl
      clear hb r1 r2 m1 m2 hj1 hj2 R1 R2
      go_wp2_with fail
      go_region_law
        (refine step_go rfl ?_; go_simp; (with_reducible refine (HS.out _ ?_).mono ?_); exact ⟨rfl, rfl, rfl, Nat.le_refl _, fun _ _ => rfl⟩; rintro e w2 ⟨rfl, hb2⟩
         have hb3 : Below wr.heap.size wr w2 := ⟨hb2.os, hb2.tape, hb2.output, hb2.size, hb2.block⟩
         have HB9 := Lib.hid (HB.out.trans (hb3.mono HB.out.size))
         clear hb2 hb3)
      all_goals
        go_wp2_with fail
        go_roundw
        case rel => exact ⟨j + 1, by omega, by go_num, HB9.out⟩
        case measure => simp [intOf]; omega
    · obtain rfl : N = j := by omega
      go_wp2_with fail
      go_ret
      exact ⟨rfl, HB.out⟩

end Go.Proofs.Ytlmbjnegajiphaa
