/- What the arguments of a law hold: slices of bytes, of numbers, of slices of bytes. -/
import Derived.Test.YtmcphlklknfbmaaLaw
import Derived.Test.YtmcphlklknfbmaaPut
import Derived.Test.YtmcphlklknfbmaaLiesI
import Derived.Deep.Matrix
namespace Go.Proofs.Ytmcphlklknfbmaa
set_option maxRecDepth 100000
open Go.RowKit Go.WideShapes Go.ChangeShapes Go.Deep

section
variable {H : Type} {enc : TypeId × Value → H} {W : World}


theorem open_bytes {base : Nat} {v : Value} {d : DataW H} {ps : List MemPlace} (hv : Value.okWide Try.prog W .any base 54 v) (h : DataW.Trod enc Try.prog W 0 (fun _ => true) true 54 v d ps) :
    ∃ A l c, v = .slice A l.length c ∧ l.length ≤ maxLen ∧ IsBytes l ∧ Lies W W.heap.size A (u8s l) := by
  obtain ⟨a0, len, cap, rfl⟩ := okWide_slice Try.underlying54 hv
  obtain ⟨fuel, hf⟩ := h
  rcases open_ints Try.underlying54 Try.underlying5 (by kernel_rfl) hf with ⟨hcs, _⟩ | ⟨a, len', cap', zs, hcs, _, hl, hm, hz, _, hcell, hwz⟩
  · simp [Value.cells] at hcs
    obtain ⟨rfl, rfl, rfl⟩ := hcs
    exact ⟨none, [], 0, rfl, Nat.zero_le _, (fun u hu => by cases hu), Lies.nil⟩
  · simp [Value.cells] at hcs
    obtain ⟨rfl, rfl, rfl⟩ := hcs
    simp only [if_true] at hz
    have htl : (zs.take len).length = len := by rw [List.length_take]; omega
    refine ⟨some a, zs.take len, cap, by rw [htl], by omega, fun u hu => ?_, lies_of_ints (by omega) hcell⟩
    have := hwz u (List.mem_of_mem_take hu)
    simpa [Lit.wf, IntKind.min, IntKind.max, IntKind.signed, IntKind.bits] using this

theorem open_nums {base : Nat} {v : Value} {d : DataW H} {ps : List MemPlace} (hv : Value.okWide Try.prog W .any base 151 v) (h : DataW.Trod enc Try.prog W 0 (fun _ => true) true 151 v d ps) :
    ∃ A l c, v = .slice A l.length c ∧ l.length ≤ maxLen ∧ IsNums l ∧ Lies W W.heap.size A (u64s l) := by
  obtain ⟨a0, len, cap, rfl⟩ := okWide_slice Try.underlying151 hv
  obtain ⟨fuel, hf⟩ := h
  rcases open_ints Try.underlying151 Try.underlying131 (by kernel_rfl) hf with ⟨hcs, _⟩ | ⟨a, len', cap', zs, hcs, _, hl, hm, hz, _, hcell, hwz⟩
  · simp [Value.cells] at hcs
    obtain ⟨rfl, rfl, rfl⟩ := hcs
    exact ⟨none, [], 0, rfl, Nat.zero_le _, (fun u hu => by cases hu), Lies.nil⟩
  · simp [Value.cells] at hcs
    obtain ⟨rfl, rfl, rfl⟩ := hcs
    simp only [if_true] at hz
    have htl : ((zs.take len).map Int.toNat).length = len := by rw [List.length_map, List.length_take]; omega
    have hw : ∀ u ∈ zs, 0 ≤ u ∧ u ≤ 18446744073709551615 := fun u hu => by
      have := hwz u hu
      simpa [Lit.wf, IntKind.min, IntKind.max, IntKind.signed, IntKind.bits] using this
    refine ⟨some a, (zs.take len).map Int.toNat, cap, by rw [htl], by omega, fun u hu => ?_, ?_⟩
    · obtain ⟨z, hz1, rfl⟩ := List.mem_map.1 hu
      have := hw z (List.mem_of_mem_take hz1); omega
    · have h2 := lies_of_ints (n := len) (by omega) hcell
      have e : u64s ((zs.take len).map Int.toNat) = (zs.take len).map (Value.int .u64) := by
        unfold u64s
        rw [List.map_map]
        refine List.map_congr_left fun z hz1 => ?_
        have := hw z (List.mem_of_mem_take hz1)
        simp only [Function.comp]
        congr 1; omega
      rw [e]; exact h2

/-- A slice of bytes as it stands in a list of such. -/
structure BRow where
  A : Option Addr
  c : Nat
  l : List Int
def BRow.hdr (r : BRow) : Value := .slice r.A r.l.length r.c
def BRow.Ok (w : World) (B : Nat) (r : BRow) : Prop := r.l.length ≤ maxLen ∧ IsBytes r.l ∧ Lies w B r.A (u8s r.l)

theorem BRow.Ok.below {w w' : World} {B : Nat} {r : BRow} (h : r.Ok w B) (hb : Below B w w') : r.Ok w' B := ⟨h.1, h.2.1, h.2.2.below hb⟩

theorem open_lists {base : Nat} {v : Value} {d : DataW H} {ps : List MemPlace} (hv : Value.okWide Try.prog W .any base 81 v) (h : DataW.Trod enc Try.prog W 0 (fun _ => true) true 81 v d ps) :
    ∃ (A : Option Addr) (rs : List BRow) (c : Nat), v = .slice A rs.length c ∧ rs.length ≤ maxLen ∧ Lies W W.heap.size A (rs.map BRow.hdr) ∧ ∀ r ∈ rs, r.Ok W W.heap.size := by
  obtain ⟨a0, len, cap, rfl⟩ := okWide_slice Try.underlying81 hv
  obtain ⟨fuel, hf⟩ := h
  rcases open_int_rows Try.underlying81 Try.underlying54 Try.underlying5 (by kernel_rfl) (by kernel_rfl) hf with ⟨hcs, _⟩ | ⟨a, len', cap', A, L, C, Z, hcs, _, hl, hm, _, hr⟩
  · simp [Value.cells] at hcs
    obtain ⟨rfl, rfl, rfl⟩ := hcs
    exact ⟨none, [], 0, rfl, Nat.zero_le _, Lies.nil, fun r hr => by cases hr⟩
  · simp [Value.cells] at hcs
    obtain ⟨rfl, rfl, rfl⟩ := hcs
    have hlen : ((List.range len).map fun r => (⟨A r, C r, (Z r).take (L r)⟩ : BRow)).length = len := by simp
    refine ⟨some a, (List.range len).map fun r => ⟨A r, C r, (Z r).take (L r)⟩, cap, by rw [hlen], by omega, ?_, ?_⟩
    · intro hp
      have hp' : 0 < len := by simpa using hp
      obtain ⟨b, off, spot⟩ := a
      have h0 := (hr 0 (by omega)).1
      have hspot : spot = none := by simpa [Addr.add] using World.cell?_spot h0
      subst hspot
      refine ⟨b, off, rfl, ?_, fun j u hu => ?_⟩
      · rw [Go.WideShapes.add_plain] at h0
        exact World.block_lt_of_cell? W _ h0
      · have hj : j < len := by
          have := (List.getElem?_eq_some_iff.1 hu).1; simpa using this
        have hc := hr j (by omega)
        rw [← Go.WideShapes.add_plain, hc.1, ← hu]
        have htl : ((Z j).take (L j)).length = L j := by rw [List.length_take]; omega
        simp [hj, BRow.hdr, htl]
    · intro r hrm
      obtain ⟨j, hj, rfl⟩ := List.mem_map.1 hrm
      have hj' : j < len := by simpa using hj
      obtain ⟨h1, h2, h3, h4, h5, h6, h7⟩ := hr j (by omega)
      refine ⟨?_, fun u hu => ?_, ?_⟩
      · simp only [List.length_take]; omega
      · have := h5 u (List.mem_of_mem_take hu)
        simpa [Lit.wf, IntKind.min, IntKind.max, IntKind.signed, IntKind.bits] using this
      · dsimp only
        cases hA : A j with
        | none =>
          have hC := h6 hA
          intro hp
          simp [u8s] at hp; omega
        | some a' =>
          obtain ⟨_, hc⟩ := h7 a' hA
          exact lies_of_ints (by omega) (fun i hi => hc i (by omega))
end

end Go.Proofs.Ytmcphlklknfbmaa
