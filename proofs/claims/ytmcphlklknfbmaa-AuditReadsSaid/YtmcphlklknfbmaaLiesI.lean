/- A list of numbers that an argument holds lies in memory. -/
import Derived.Test.YtmcphlklknfbmaaGrid
import Derived.Test.YtmcphlklknfbmaaLaw
import Derived.Deep.Matrix
namespace Go.Proofs.Ytmcphlklknfbmaa
set_option maxRecDepth 100000
open Go.RowKit Go.WideShapes Go.ChangeShapes Go.Deep

section
variable {W : World}
theorem lies_of_ints {k : IntKind} {a : Addr} {zs : List Int} {n : Nat} (hn : n ≤ zs.length) (h : ∀ i, i < zs.length → W.cell? (a.add i) = some (.int k (zs.getD i 0))) :
    Lies W W.heap.size (some a) ((zs.take n).map (Value.int k)) := fun hp => by
  have hz : 0 < zs.length := by simp at hp; omega
  obtain ⟨b, off, rfl, hc⟩ := ints_at h hz
  refine ⟨b, off, rfl, ?_, fun j u hu => ?_⟩
  · exact World.block_lt_of_cell? W _ (hc 0 hz)
  · have hj : j < (zs.take n).length := by
      have := (List.getElem?_eq_some_iff.1 hu).1; simpa using this
    have hj' : j < n ∧ j < zs.length := by rw [List.length_take] at hj; omega
    rw [hc j hj'.2]
    rw [← hu]
    simp [hj'.1, List.getD, hj'.2]
end

end Go.Proofs.Ytmcphlklknfbmaa
