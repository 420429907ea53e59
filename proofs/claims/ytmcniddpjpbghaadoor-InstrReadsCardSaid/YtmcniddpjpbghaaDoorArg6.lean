/- What an argument that is an instruction holds. -/
import Derived.Test.YtmcniddpjpbghaaDoorOpen
import Derived.Lib.SmallJoins
namespace Go.Proofs.YtmcniddpjpbghaaDoor
set_option maxRecDepth 100000
open Go.RowKit Go.WideShapes Go.ChangeShapes Go.Deep

section
variable {H : Type} {enc : TypeId × Value → H} {W : World}
theorem open_instr {base : Nat} {v : Value} {d : DataW H} {ps : List MemPlace} (hv : Value.okWide Tryd.prog W .any base 23 v) (h : DataW.Trod enc Tryd.prog W 0 (fun _ => true) true 23 v d ps) :
    ∃ op arg : Int, v = .agg #[.int .i64 op, .int .i32 arg] ∧ (-9223372036854775808 ≤ op ∧ op ≤ 9223372036854775807) ∧ -2147483648 ≤ arg ∧ arg ≤ 2147483647 := by
  obtain ⟨v0, v1, y0, y1, n, rfl, _, _, h0, h1⟩ := Go.Joins.open_agg2 Tryd.underlying23 (by kernel_rfl) (by kernel_rfl) hv h
  obtain ⟨z0, e0, _, w0⟩ := DataW.trod_int Tryd.underlying3 h0
  obtain ⟨z1, e1, _, w1⟩ := DataW.trod_int Tryd.underlying21 h1
  simp only [List.cons.injEq, and_true] at e0 e1
  subst e0 e1
  refine ⟨z0, z1, rfl, ?_, ?_⟩
  · simpa [Lit.wf, IntKind.min, IntKind.max, IntKind.signed, IntKind.bits] using w0
  · simpa [Lit.wf, IntKind.min, IntKind.max, IntKind.signed, IntKind.bits] using w1
end

end Go.Proofs.YtmcniddpjpbghaaDoor
