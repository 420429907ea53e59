/- Slices of bytes that an argument holds; lists of numbers with room behind them; own lists of numbers. -/
import Derived.Test.YtlmbjnegajiphaaLaw
import Derived.Test.YtlmbjnegajiphaaNums
import Derived.Test.YtlmbjnegajiphaaLiesI
import Derived.Deep.Matrix
import Derived.Deep.Grids
namespace Go.Proofs.Ytlmbjnegajiphaa
set_option maxRecDepth 100000
open Go.RowKit Go.WideShapes Go.ChangeShapes Go.Deep

def u8L (l : List Int) : List Value := l.map (Value.int .u8)
theorem u8L_length (l : List Int) : (u8L l).length = l.length := by simp [u8L]
def IsByt (l : List Int) : Prop := ∀ x ∈ l, 0 ≤ x ∧ x ≤ 255
/-- The slice v holds the bytes l. -/
def BytV (w : World) (B : Nat) (v : Value) (l : List Int) : Prop := ∃ A c, v = .slice A l.length c ∧ l.length ≤ c ∧ Lies w B A (u8L l)
section
variable {w w' : World} {B B' : Nat} {v : Value} {l : List Int}
theorem BytV.below (h : BytV w B v l) (hb : Below B w w') : BytV w' B v l := by
  obtain ⟨A, c, e, hn, hl⟩ := h; exact ⟨A, c, e, hn, hl.below hb⟩
theorem BytV.more (h : BytV w B v l) (hB : B ≤ B') : BytV w B' v l := by
  obtain ⟨A, c, e, hn, hl⟩ := h; exact ⟨A, c, e, hn, hl.more hB⟩
end
theorem lie_u8 {w : World} {B : Nat} {A : Option Addr} {l : List Int} (h : Lies w B A (u8L l)) {k : Nat} (hk : k < l.length) :
    ∃ b off, A = some ⟨b, off, none⟩ ∧ b < B ∧ w.cell? ⟨b, off + k, none⟩ = some (.int .u8 l[k]) := by
  obtain ⟨b, off, e, hb, hc⟩ := h.cell (k := k) (by rw [u8L_length]; exact hk)
  exact ⟨b, off, e, hb, by rw [hc]; simp [u8L]⟩

section
variable {H : Type} {enc : TypeId × Value → H} {W : World}
theorem open_bytv {base : Nat} {v : Value} {d : DataW H} {ps : List MemPlace} (hv : Value.okWide Try.prog W .any base 25 v) (h : DataW.Trod enc Try.prog W 0 (fun _ => true) true 25 v d ps) :
    ∃ l, BytV W W.heap.size v l ∧ l.length ≤ maxLen ∧ IsByt l := by
  obtain ⟨a0, len, cap, rfl⟩ := okWide_slice Try.underlying25 hv
  obtain ⟨fuel, hf⟩ := h
  rcases open_ints Try.underlying25 Try.underlying5 (by kernel_rfl) hf with ⟨hcs, _⟩ | ⟨a, len', cap', zs, hcs, _, hl, hm, hz, _, hcell, hwz⟩
  · simp [Value.cells] at hcs
    obtain ⟨rfl, rfl, rfl⟩ := hcs
    exact ⟨[], ⟨none, 0, rfl, Nat.le_refl _, Lies.nil⟩, Nat.zero_le _, (fun u hu => by cases hu)⟩
  · simp [Value.cells] at hcs
    obtain ⟨rfl, rfl, rfl⟩ := hcs
    simp only [if_true] at hz
    have htl : (zs.take len).length = len := by rw [List.length_take]; omega
    refine ⟨zs.take len, ⟨some a, cap, by rw [htl], by rw [htl]; exact hl, lies_of_ints (by omega) hcell⟩, by omega, fun u hu => ?_⟩
    have := hwz u (List.mem_of_mem_take hu)
    simpa [Lit.wf, IntKind.min, IntKind.max, IntKind.signed, IntKind.bits] using this
end

end Go.Proofs.Ytlmbjnegajiphaa
