/- A slice that holds bools; as an argument. -/
import Derived.Test.YtlmbjnegajiphaaLiesI
import Derived.Deep.Grids
import Derived.Test.YtlmbjnegajiphaaLaw
import Derived.Deep.Matrix
namespace Go.Proofs.Ytlmbjnegajiphaa
set_option maxRecDepth 100000
open Go.RowKit Go.WideShapes Go.ChangeShapes Go.Deep

def bools (l : List Bool) : List Value := l.map Value.bool
def BoolV (w : World) (B : Nat) (v : Value) (l : List Bool) : Prop := ∃ A c, v = .slice A l.length c ∧ Lies w B A (bools l)
theorem lie_bool {w : World} {B : Nat} {A : Option Addr} {l : List Bool} (h : Lies w B A (bools l)) {k : Nat} (hk : k < l.length) :
    ∃ b off, A = some ⟨b, off, none⟩ ∧ b < B ∧ w.cell? ⟨b, off + k, none⟩ = some (.bool l[k]) := by
  obtain ⟨b, off, e, hb, hc⟩ := h.cell (k := k) (by simp [bools]; exact hk)
  exact ⟨b, off, e, hb, by rw [hc]; simp [bools]⟩
section
variable {H : Type} {enc : TypeId × Value → H} {W : World}
theorem open_boolv {base : Nat} {v : Value} {d : DataW H} {ps : List MemPlace} (hv : Value.okWide Try.prog W .any base 80 v) (h : DataW.Trod enc Try.prog W 0 (fun _ => true) true 80 v d ps) :
    ∃ l, BoolV W W.heap.size v l ∧ l.length ≤ maxLen := by
  obtain ⟨a0, len, cap, rfl⟩ := okWide_slice Try.underlying80 hv
  obtain ⟨fuel, hf⟩ := h
  rcases open_bools Try.underlying80 Try.underlying4 (by kernel_rfl) hf with ⟨hcs, _⟩ | ⟨a, len', cap', Z, hcs, _, hl, hm, _, hcell⟩
  · simp [Value.cells] at hcs
    obtain ⟨rfl, rfl, rfl⟩ := hcs
    exact ⟨[], ⟨none, 0, rfl, Lies.nil⟩, Nat.zero_le _⟩
  · simp [Value.cells] at hcs
    obtain ⟨rfl, rfl, rfl⟩ := hcs
    refine ⟨(List.range len).map Z, ⟨some a, cap, by simp, fun hp => ?_⟩, by simp; omega⟩
    have hp' : 0 < len := by simpa [bools] using hp
    obtain ⟨b, off, spot⟩ := a
    have h0 := hcell 0 (by omega)
    have hspot : spot = none := by simpa [Addr.add] using World.cell?_spot h0
    subst hspot
    refine ⟨b, off, rfl, ?_, fun j u hu => ?_⟩
    · rw [Go.WideShapes.add_plain] at h0
      exact World.block_lt_of_cell? W _ h0
    · have hj : j < len := by
        have := (List.getElem?_eq_some_iff.1 hu).1; simpa [bools] using this
      have hc := hcell j (by omega)
      rw [← Go.WideShapes.add_plain, hc, ← hu]
      simp [bools, hj]
end

end Go.Proofs.Ytlmbjnegajiphaa
