/- Law 22: records of numbers (some), and whether two lists of records are the same. -/
import Derived.Test.YtmcphlklknfbmaaKn22
import Derived.Test.YtmcphlklknfbmaaArgR
import Derived.Test.YtmcphlklknfbmaaApq
import Derived.Deep.QuietTactic
import Derived.BigQuiet
namespace Go.Proofs.Ytmcphlklknfbmaa
set_option maxRecDepth 100000
open Go.RowKit Go.WideShapes Go.ChangeShapes Go.Deep

section
variable {H : Type} {enc : TypeId × Value → H} {W : World}
/-- A slice of arrays of four bytes. -/
theorem open_rows4 {base : Nat} {v : Value} {d : DataW H} {ps : List MemPlace} (hv : Value.okWide Try.prog W .any base 22 v) (h : DataW.Trod enc Try.prog W 0 (fun _ => true) true 22 v d ps) :
    ∃ L, RowsV [.u8, .u8, .u8, .u8] W W.heap.size v L ∧ L.length ≤ maxLen := by
  obtain ⟨a0, len, cap, rfl⟩ := okWide_slice Try.underlying22 hv
  obtain ⟨fuel, hf⟩ := h
  rcases open_slice Try.underlying22 hf with ⟨hcs, _⟩ | ⟨a, len', cap', m, n, D, Pl, hcs, _, hl, hm, hmm, _, hx⟩
  · simp [Value.cells] at hcs
    obtain ⟨rfl, rfl, rfl⟩ := hcs
    exact ⟨[], ⟨none, 0, rfl, Nat.le_refl _, Lies.nil, fun p hp => by cases hp⟩, Nat.zero_le _⟩
  · simp [Value.cells] at hcs
    obtain ⟨rfl, rfl, rfl⟩ := hcs
    have hC : Try.prog.cellsOf 32 = 4 := by kernel_rfl
    have hlm : len ≤ m := by rw [hmm]; simp; exact hl
    have each : ∀ i, i < len → ∃ r : List Int, KRow [.u8, .u8, .u8, .u8] r ∧ ∀ (j : Nat) (k : IntKind) (z : Int), ([.u8, .u8, .u8, .u8] : List IntKind)[j]? = some k → r[j]? = some z → W.cell? (a.add (i * ([.u8, .u8, .u8, .u8] : List IntKind).length + j)) = some (.int k z) := by
      intro i hi
      obtain ⟨cs', h1, h2⟩ := hx i (by omega)
      rw [hC] at h1
      obtain ⟨_, hlen, hcell⟩ := World.cells?_some h1
      obtain ⟨xs, m', _, _, _, hxl, hfi⟩ := DataW.trod_array Try.underlying32 h2
      have hc1 : Try.prog.cellsOf 5 = 1 := by kernel_rfl
      match xs, hxl, cs', hlen with
      | [y0, y1, y2, y3], _, [v0, v1, v2, v3], _ =>
        have g0 := hfi 0 (by omega)
        have g1 := hfi 1 (by omega)
        have g2 := hfi 2 (by omega)
        have g3 := hfi 3 (by omega)
        simp [hc1] at g0 g1 g2 g3
        have e0 := hcell 0 (by omega)
        have e1 := hcell 1 (by omega)
        have e2 := hcell 2 (by omega)
        have e3 := hcell 3 (by omega)
        rw [add_add] at e0 e1 e2 e3
        obtain ⟨z0, q0, _, w0⟩ := DataW.trod_int Try.underlying5 g0
        obtain ⟨z1, q1, _, w1⟩ := DataW.trod_int Try.underlying5 g1
        obtain ⟨z2, q2, _, w2⟩ := DataW.trod_int Try.underlying5 g2
        obtain ⟨z3, q3, _, w3⟩ := DataW.trod_int Try.underlying5 g3
        simp only [List.cons.injEq, and_true] at q0 q1 q2 q3
        subst q0 q1 q2 q3
        refine ⟨[z0, z1, z2, z3], ⟨rfl, fun j k z hk hz => ?_⟩, fun j k z hk hz => ?_⟩
        · rcases j with _ | _ | _ | _ | j
          · injection hk with hk; injection hz with hz; subst hk hz; exact wf_bound w0
          · injection hk with hk; injection hz with hz; subst hk hz; exact wf_bound w1
          · injection hk with hk; injection hz with hz; subst hk hz; exact wf_bound w2
          · injection hk with hk; injection hz with hz; subst hk hz; exact wf_bound w3
          · simp at hz
        · rcases j with _ | _ | _ | _ | j
          · injection hk with hk; injection hz with hz; subst hk hz; exact e0
          · injection hk with hk; injection hz with hz; subst hk hz; exact e1
          · injection hk with hk; injection hz with hz; subst hk hz; exact e2
          · injection hk with hk; injection hz with hz; subst hk hz; exact e3
          · simp at hz
    obtain ⟨L, h1, h2⟩ := rows_of_cells (W := W) (ks := [.u8, .u8, .u8, .u8]) (by decide) hl each
    exact ⟨L, h1, by rw [h2]; omega⟩
end

set_option maxRecDepth 100000 in
set_option maxHeartbeats 4000000 in
theorem sameAudit_any {w : World} {v1 v2 : Value} {L : List RecX} (h1 : RcV w v1 L) (h2 : RcV w v2 L) (hn : L.length ≤ 100000) :
    Calls Try.prog 18 #[v1, v2] w fun e w' => e = .returned (.bool true) ∧ Below w.heap.size w w' := by
  have H1 := Lib.hid h1; have H2 := Lib.hid h2
  obtain ⟨A1, c1, rfl, hj1⟩ := h1
  obtain ⟨A2, c2, rfl, hj2⟩ := h2
  obtain ⟨n, hln⟩ : ∃ n, L.length = n := ⟨_, rfl⟩
  have HLN := Lib.hid hln
  rw [hln] at H1 H2 hn ⊢
  clear hj1 hj2 hln
  go_enter Try.func18, Try.ntmps18
  go_wp2_with fail
  go_loopw [5] (fun i wr => ∃ j : Nat, j ≤ n ∧ i = .int .i64 j ∧ Below w.heap.size w wr) (fun i _ => n - (intOf i).toNat)
  case atStart => exact ⟨0, Nat.zero_le _, rfl, Below.refl _ _⟩
  case round =>
    obtain ⟨j, hj, rfl, hb⟩ := hrel
    have HB := Lib.hid hb
    by_cases hjn : j < n
    · have hjl : j < L.length := by rw [HLN.out]; exact hjn
      obtain ⟨g1, o1, e1, r1⟩ := H1.out.at' hjl
      obtain ⟨g2, o2, e2, r2⟩ := H2.out.at' hjl
      subst e1
      subst e2
      generalize L[j] = x at *
      have R1 := rc_range_below r1 hb
      have R2 := rc_range_below r2 hb
      have d0 : wr.cell? ⟨g1, o1 + j * 6, none⟩ = some (.int .i64 x.sq) := R1 0 _ rfl
      have d1 : wr.cell? ⟨g1, o1 + j * 6 + 1, none⟩ = some (.int .i64 x.gt) := R1 1 _ rfl
      have d2 : wr.cell? ⟨g1, o1 + j * 6 + 2, none⟩ = some (.int .i64 x.tt) := R1 2 _ rfl
      have d3 : wr.cell? ⟨g1, o1 + j * 6 + 3, none⟩ = some (.int .i32 x.vl) := R1 3 _ rfl
      have d4 : wr.cell? ⟨g1, o1 + j * 6 + 4, none⟩ = some (.int .i64 x.rd) := R1 4 _ rfl
      have d5 : wr.cell? ⟨g1, o1 + j * 6 + 5, none⟩ = some (.int .i32 x.bb) := R1 5 _ rfl
      have q0 : wr.cell? ⟨g2, o2 + j * 6, none⟩ = some (.int .i64 x.sq) := R2 0 _ rfl
      have q1 : wr.cell? ⟨g2, o2 + j * 6 + 1, none⟩ = some (.int .i64 x.gt) := R2 1 _ rfl
      have q2 : wr.cell? ⟨g2, o2 + j * 6 + 2, none⟩ = some (.int .i64 x.tt) := R2 2 _ rfl
      have q3 : wr.cell? ⟨g2, o2 + j * 6 + 3, none⟩ = some (.int .i32 x.vl) := R2 3 _ rfl
      have q4 : wr.cell? ⟨g2, o2 + j * 6 + 4, none⟩ = some (.int .i64 x.rd) := R2 4 _ rfl
      have q5 : wr.cell? ⟨g2, o2 + j * 6 + 5, none⟩ = some (.int .i32 x.bb) := R2 5 _ rfl
      have s0 : (x.sq == x.sq) = true := beq_self_eq_true _
      have s1 : (x.gt == x.gt) = true := beq_self_eq_true _
      have s2 : (x.tt == x.tt) = true := beq_self_eq_true _
      have s3 : (x.vl == x.vl) = true := beq_self_eq_true _
      have s4 : (x.rd == x.rd) = true := beq_self_eq_true _
      have s5 : (x.bb == x.bb) = true := beq_self_eq_true _
      have i1 : (0 : Int) ≤ (j : Int) ∧ (j : Int) < n := by omega
      clear hb r1 r2 R1 R2 hjl
      go_wp2_with fail
      go_quiet (fail)
      go_wp2_with fail
      go_roundw
      case rel => exact ⟨j + 1, by omega, by go_num, HB.out.trans (below_drewN (Below.refl _ _) _)⟩
      case measure => simp [intOf]; omega
    · obtain rfl : n = j := by omega
      go_wp2_with fail
      go_ret
      exact ⟨rfl, HB.out⟩

end Go.Proofs.Ytmcphlklknfbmaa
