/- A result that is an instruction in a cell of the call's own. -/
import Derived.Test.YtjnlgmjcabbaaaaRows
import Derived.Laws.ResultCell
import Derived.Laws.Rows
import Derived.KernelRfl
namespace Go.Proofs.Ytjnlgmjcabbaaaa
set_option maxRecDepth 100000
open Go

theorem info_instr : (Try.prog.info? 32).map (·.size) = some 2 := by kernel_rfl
theorem load_instr (w : World) (g t : Nat) (x y : Value) (fr : Nat × Nat) (hg : w.heap[g]? = some (.cells #[x, y] t fr)) : (loadVar 32 ⟨g, 0, none⟩).run Try.prog w = .ok (.agg #[x, y]) w :=
  run_loadVar_row w g t 32 #[x, y] fr _ hg Try.underlying32 rfl info_instr
/-- An instruction and a Bool are returned. -/
theorem ret_instr2 {fn : Func} {R : Ending → World → Prop} {a : Act} {w : World} {p u g t : Nat} {x y : Value} {fr : Nat × Nat} (h : fn.results = #[.cell p 32, .tmp u]) (hd : a.defers = [])
    (hp : a.tmps.getD p undef = .pointer (some ⟨g, 0, none⟩)) (hg : w.heap[g]? = some (.cells #[x, y] t fr)) (hR : R (.returned (.tuple #[.agg #[x, y], a.tmps.getD u undef])) w) : bodyPost Try.prog fn R .ret a w := by
  refine bodyPost_ret ?_ hd hR
  rw [results_cell_tmp h, hp]
  simp [asAddr, load_instr w g t x y fr hg]
theorem ret_instr {fn : Func} {R : Ending → World → Prop} {a : Act} {w : World} {p g t : Nat} {x y : Value} {fr : Nat × Nat} (h : fn.results = #[.cell p 32]) (hd : a.defers = [])
    (hp : a.tmps.getD p undef = .pointer (some ⟨g, 0, none⟩)) (hg : w.heap[g]? = some (.cells #[x, y] t fr)) (hR : R (.returned (.agg #[x, y])) w) : bodyPost Try.prog fn R .ret a w := by
  refine bodyPost_ret ?_ hd hR
  exact results_cell_row h a.tmps w g t #[x, y] fr _ hp hg Try.underlying32 rfl info_instr

end Go.Proofs.Ytjnlgmjcabbaaaa
