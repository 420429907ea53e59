/- What an argument that is a list of pairs of bytes holds. -/
import Derived.Test.YtboelofkbhgmfaaLaw
import Derived.Test.YtboelofkbhgmfaaNums
import Derived.Test.YtboelofkbhgmfaaLiesI
import Derived.Deep.Slices
namespace Go.Proofs.Ytboelofkbhgmfaa
set_option maxRecDepth 100000
open Go.RowKit Go.WideShapes Go.ChangeShapes Go.Deep

/-- From some place on, in blocks below B, the pairs of bytes P. -/
def PairsV (w : World) (B : Nat) (v : Value) (P : List (Nat × Nat)) : Prop :=
  ∃ A c, v = .slice A P.length c ∧ Lies w B A (P.flatMap fun p => [.int .u8 p.1, .int .u8 p.2]) ∧ ∀ p ∈ P, p.1 ≤ 255 ∧ p.2 ≤ 255
theorem PairsV.below {w w' : World} {B : Nat} {v : Value} {P : List (Nat × Nat)} (h : PairsV w B v P) (hb : Below B w w') : PairsV w' B v P := by
  obtain ⟨A, c, e, hl, hr⟩ := h
  exact ⟨A, c, e, hl.below hb, hr⟩
theorem pairs_at : ∀ (P : List (Nat × Nat)) (k : Nat), k < P.length →
    (P.flatMap fun p => [Value.int .u8 p.1, Value.int .u8 p.2])[k * 2]? = some (.int .u8 (P.getD k (0, 0)).1) ∧ (P.flatMap fun p => [Value.int .u8 p.1, Value.int .u8 p.2])[k * 2 + 1]? = some (.int .u8 (P.getD k (0, 0)).2)
  | [], k, h => by simp at h
  | p :: r, 0, _ => ⟨rfl, rfl⟩
  | p :: r, k + 1, h => by
    have := pairs_at r k (by simpa using h)
    rw [List.flatMap_cons, show (k + 1) * 2 = k * 2 + 1 + 1 from by omega]
    exact this
theorem pairs_length (P : List (Nat × Nat)) : (P.flatMap fun p => [Value.int .u8 p.1, Value.int .u8 p.2]).length = P.length * 2 := by
  induction P with
  | nil => rfl
  | cons p r ih => rw [List.flatMap_cons, List.length_append, ih]; simp; omega
theorem PairsV.cells {w : World} {B : Nat} {v : Value} {P : List (Nat × Nat)} (h : PairsV w B v P) {k : Nat} (hk : k < P.length) :
    ∃ b off c, v = .slice (some ⟨b, off, none⟩) P.length c ∧ w.cell? ⟨b, off + k * 2, none⟩ = some (.int .u8 (P.getD k (0, 0)).1) ∧ w.cell? ⟨b, off + k * 2 + 1, none⟩ = some (.int .u8 (P.getD k (0, 0)).2) ∧ (P.getD k (0, 0)).1 ≤ 255 ∧ (P.getD k (0, 0)).2 ≤ 255 := by
  obtain ⟨A, c, rfl, hl, hr⟩ := h
  obtain ⟨b, off, rfl, hb, hc⟩ := hl (by rw [pairs_length]; omega)
  obtain ⟨h1, h2⟩ := pairs_at P k hk
  have hm : P.getD k (0, 0) ∈ P := by rw [List.getD_eq_getElem?_getD, List.getElem?_eq_getElem hk]; exact List.getElem_mem hk
  exact ⟨b, off, c, rfl, hc _ _ h1, by have := hc _ _ h2; rwa [← Nat.add_assoc] at this, (hr _ hm).1, (hr _ hm).2⟩

def zsOf (P : List (Nat × Nat)) : List Int := P.flatMap fun p => [(p.1 : Int), (p.2 : Int)]
theorem zs_length (P : List (Nat × Nat)) : (zsOf P).length = P.length * 2 := by
  unfold zsOf
  induction P with
  | nil => rfl
  | cons p r ih => rw [List.flatMap_cons, List.length_append, ih]; simp; omega
theorem zs_map (P : List (Nat × Nat)) : (zsOf P).map (Value.int .u8) = P.flatMap fun p => [Value.int .u8 p.1, Value.int .u8 p.2] := by
  unfold zsOf
  rw [List.map_flatMap]; rfl
theorem zs_at : ∀ (P : List (Nat × Nat)) (k : Nat), k < P.length → (zsOf P).getD (k * 2) 0 = ((P.getD k (0, 0)).1 : Nat) ∧ (zsOf P).getD (k * 2 + 1) 0 = ((P.getD k (0, 0)).2 : Nat)
  | [], k, h => by simp at h
  | p :: r, 0, _ => ⟨rfl, rfl⟩
  | p :: r, k + 1, h => by
    have := zs_at r k (by simpa using h)
    have e : zsOf (p :: r) = (p.1 : Int) :: (p.2 : Int) :: zsOf r := rfl
    rw [e, show (k + 1) * 2 = k * 2 + 1 + 1 from by omega]
    exact this
section
variable {H : Type} {enc : TypeId × Value → H} {W : World}
theorem open_pairs {base : Nat} {v : Value} {d : DataW H} {ps : List MemPlace} (hv : Value.okWide Try.prog W .any base 50 v) (h : DataW.Trod enc Try.prog W 0 (fun _ => true) true 50 v d ps) :
    ∃ P, PairsV W W.heap.size v P ∧ P.length ≤ maxLen := by
  obtain ⟨a0, len, cap, rfl⟩ := okWide_slice Try.underlying50 hv
  obtain ⟨fuel, hf⟩ := h
  rcases open_slice Try.underlying50 hf with ⟨hcs, _⟩ | ⟨a, len', cap', m, n, D, Pl, hcs, _, hl, hm, hmm, _, hx⟩
  · simp [Value.cells] at hcs
    obtain ⟨rfl, rfl, rfl⟩ := hcs
    exact ⟨[], ⟨none, 0, rfl, Lies.nil, (fun p hp => by cases hp)⟩, Nat.zero_le _⟩
  · simp [Value.cells] at hcs
    obtain ⟨rfl, rfl, rfl⟩ := hcs
    have hcell2 : Try.prog.cellsOf 52 = 2 := by kernel_rfl
    have hlm : len ≤ m := by rw [hmm]; simp; exact hl
    have each : ∀ i, i < len → ∃ q : Nat × Nat, W.cell? (a.add (i * 2)) = some (.int .u8 q.1) ∧ W.cell? (a.add (i * 2 + 1)) = some (.int .u8 q.2) ∧ q.1 ≤ 255 ∧ q.2 ≤ 255 := by
      intro i hi
      obtain ⟨cs', h1, h2⟩ := hx i (by omega)
      rw [hcell2] at h1
      obtain ⟨_, hlen, hcell⟩ := World.cells?_some h1
      obtain ⟨xs, m', _, _, _, hxl, hfi⟩ := DataW.trod_array Try.underlying52 h2
      have hc1 : Try.prog.cellsOf 5 = 1 := by kernel_rfl
      match xs, hxl, cs', hlen with
      | [y0, y1], _, [v0, v1], _ =>
        have g0 := hfi 0 (by omega)
        have g1 := hfi 1 (by omega)
        simp [hc1] at g0 g1
        have e0 := hcell 0 (by omega)
        have e1 := hcell 1 (by omega)
        rw [add_add] at e0 e1
        obtain ⟨z0, q0, _, w0⟩ := DataW.trod_int Try.underlying5 g0
        obtain ⟨z1, q1, _, w1⟩ := DataW.trod_int Try.underlying5 g1
        simp only [List.cons.injEq, and_true] at q0 q1
        subst q0 q1
        have b0 : 0 ≤ z0 ∧ z0 ≤ 255 := by simpa [Lit.wf, IntKind.min, IntKind.max, IntKind.signed, IntKind.bits] using w0
        have b1 : 0 ≤ z1 ∧ z1 ≤ 255 := by simpa [Lit.wf, IntKind.min, IntKind.max, IntKind.signed, IntKind.bits] using w1
        obtain ⟨n0, rfl⟩ : ∃ n : Nat, z0 = n := ⟨z0.toNat, by omega⟩
        obtain ⟨n1, rfl⟩ : ∃ n : Nat, z1 = n := ⟨z1.toNat, by omega⟩
        exact ⟨(n0, n1), by simpa using e0, by simpa using e1, by show n0 ≤ 255; omega, by show n1 ≤ 255; omega⟩
    obtain ⟨q, hq⟩ := choose_lt each
    obtain ⟨P, hP⟩ : ∃ P, P = (List.range len).map q := ⟨_, rfl⟩
    have hPl : P.length = len := by rw [hP]; simp
    have hPg : ∀ k, k < len → P.getD k (0, 0) = q k := by
      intro k hk
      rw [hP, List.getD_eq_getElem?_getD]
      simp [hk]
    have hzl := zs_length P
    have hlies := lies_of_ints (W := W) (k := .u8) (a := a) (zs := zsOf P) (n := (zsOf P).length) (Nat.le_refl _) (fun i hi => by
      rw [hzl, hPl] at hi
      rcases (by omega : i = (i / 2) * 2 ∨ i = (i / 2) * 2 + 1) with e | e
      · rw [e, (zs_at P (i / 2) (by omega)).1, hPg _ (by omega)]
        exact (hq (i / 2) (by omega)).1
      · rw [e, (zs_at P (i / 2) (by omega)).2, hPg _ (by omega)]
        exact (hq (i / 2) (by omega)).2.1)
    rw [List.take_length, zs_map] at hlies
    refine ⟨P, ⟨some a, cap, by rw [hPl], hlies, fun p hp => ?_⟩, by rw [hPl]; omega⟩
    rw [hP] at hp
    obtain ⟨i, hi, rfl⟩ := List.mem_map.1 hp
    have := hq i (List.mem_range.1 hi)
    exact this.2.2
end

end Go.Proofs.Ytboelofkbhgmfaa
