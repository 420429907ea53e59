/-
  No cell of these rows narrows 'for every input' (looked for: loops, veiled, ifaces, maps, wideKeys, modest, calm, conditions, laid).
  DERIVED. THE GIVEN ROWS OF THIS SEAT. 3 by the template 'for every input the law returns true; each argument reads behind the call as it read before'; 0 by the template 'total and deterministic' (their statements: YtopjhgaamjgcnaaTotals.lean).
  GIVEN WITH THE SEED: the statements are not yours to turn. If you find one false, say at which input.
  Laid BY PROGRAM, IN A SANDBOX (cutbox-rows.mjs): the forced cells as the released guide's own fill.sh prints them over the translation ca33144f5f7875f6… (all of the seat's roots in one cut). By AI agents, Wed Nov 11 2026. No macro, syntax, notation, axiom, sorry.
-/
import Derived.Test.YtopjhgaamjgcnaaChecked
import GoSem.Claim
import GoSem.ClaimJoined
import GoSem.ClaimMapViews
import Derived.JoinedTies
import Derived.KernelRfl
namespace Go.Proofs.Ytopjhgaamjgcnaa
/- THE CELL 'sum', in the pinned program and in every row, IS THE sha256 OF THE DUMP (.gsa) THAT YtopjhgaamjgcnaaProg.lean LOADS. Nothing in Lean hashes anything: it is a label: what it is worth is what the hold of that sum in a sandbox is worth. -/
noncomputable def Try.pinned : Pinned := { name := "ytopjhgaamjgcnaa", sum := "ca33144f5f7875f605235d9f0c19587b1aa7550df0ad89d7f21b8a46c2162deb", checked := Try.checked }
namespace Rows
def none {H : Type} : Left H := { results := [], args := [] }

/-- 'confidantlaw2.OrderTells': WHATEVER THE INPUT: true; the input reads as it did. -/
def orderTellsSpec : ChangeSpec := { name := "orderTells", fn := fun _ => fun
  | [d1, d2, d3, d4, d5, d6, d7, d8] => { results := [.lit (.bool true)], args := [d1, d2, d3, d4, d5, d6, d7, d8] }
  | _ => none }
def orderTellsRow : OpenClaim := { program := "ytopjhgaamjgcnaa", sum := "ca33144f5f7875f605235d9f0c19587b1aa7550df0ad89d7f21b8a46c2162deb", func := "confidant/confidantlaw2.OrderTells", spec := "orderTells", apart := false }
def OrderTellsSaid : Prop := orderTellsRow.holds Try.pinned (OpenSpec.ofChange orderTellsSpec)

/-- ITS FALSE NEIGHBOUR: 'it returns false'. Refute it at one input. -/
def orderTellsWrong : ChangeSpec := { name := "orderTells", fn := fun _ => fun
  | [d1, d2, d3, d4, d5, d6, d7, d8] => { results := [.lit (.bool false)], args := [d1, d2, d3, d4, d5, d6, d7, d8] }
  | _ => none }
def OrderTellsWrongFalsely : Prop := orderTellsRow.holds Try.pinned (OpenSpec.ofChange orderTellsWrong)

/-- 'confidantlaw2.OrderBounds': WHATEVER THE INPUT: true; the input reads as it did. -/
def orderBoundsSpec : ChangeSpec := { name := "orderBounds", fn := fun _ => fun
  | [d1, d2, d3, d4, d5] => { results := [.lit (.bool true)], args := [d1, d2, d3, d4, d5] }
  | _ => none }
def orderBoundsRow : OpenClaim := { program := "ytopjhgaamjgcnaa", sum := "ca33144f5f7875f605235d9f0c19587b1aa7550df0ad89d7f21b8a46c2162deb", func := "confidant/confidantlaw2.OrderBounds", spec := "orderBounds", apart := false }
def OrderBoundsSaid : Prop := orderBoundsRow.holds Try.pinned (OpenSpec.ofChange orderBoundsSpec)

/-- ITS FALSE NEIGHBOUR: 'it returns false'. Refute it at one input. -/
def orderBoundsWrong : ChangeSpec := { name := "orderBounds", fn := fun _ => fun
  | [d1, d2, d3, d4, d5] => { results := [.lit (.bool false)], args := [d1, d2, d3, d4, d5] }
  | _ => none }
def OrderBoundsWrongFalsely : Prop := orderBoundsRow.holds Try.pinned (OpenSpec.ofChange orderBoundsWrong)

/-- 'confidantlaw2.OrderSquares': WHATEVER THE INPUT: true; the input reads as it did. -/
def orderSquaresSpec : ChangeSpec := { name := "orderSquares", fn := fun _ => fun
  | [d1, d2] => { results := [.lit (.bool true)], args := [d1, d2] }
  | _ => none }
def orderSquaresRow : OpenClaim := { program := "ytopjhgaamjgcnaa", sum := "ca33144f5f7875f605235d9f0c19587b1aa7550df0ad89d7f21b8a46c2162deb", func := "confidant/confidantlaw2.OrderSquares", spec := "orderSquares", apart := false }
def OrderSquaresSaid : Prop := orderSquaresRow.holds Try.pinned (OpenSpec.ofChange orderSquaresSpec)

/-- ITS FALSE NEIGHBOUR: 'it returns false'. Refute it at one input. -/
def orderSquaresWrong : ChangeSpec := { name := "orderSquares", fn := fun _ => fun
  | [d1, d2] => { results := [.lit (.bool false)], args := [d1, d2] }
  | _ => none }
def OrderSquaresWrongFalsely : Prop := orderSquaresRow.holds Try.pinned (OpenSpec.ofChange orderSquaresWrong)

/- THE SECOND FORM. 'bulk': how many values and letters a reading holds, each counted each time it is reached (what is shared counts as often as it is met; a slice's spare places count too). A statement '..UptoSaid' is the law's where the arguments, and the package variables that the reading takes, are together of bulk at most 1048576: NARROWER than '..Said'. Prove '..Said' where nothing that the law and all that it calls make is longer than what came in: it says more and counts as full. Else prove '..UptoSaid'. A law counts once. -/
mutual
def uptoBulk {H : Type} : DataW H → Nat
  | .lit (.string bytes) => bytes.length + 1
  | .lit _ => 1
  | .nil => 1
  | .ptr d => uptoBulk d + 1
  | .slice elems spare => uptoBulkAll elems + uptoBulkAll spare + 1
  | .agg parts => uptoBulkAll parts + 1
  | .iface _ d => uptoBulk d + 1
  | .map entries => uptoBulkEntries entries + 1
  | .held _ => 1
def uptoBulkAll {H : Type} : List (DataW H) → Nat
  | [] => 0
  | d :: r => uptoBulk d + uptoBulkAll r
def uptoBulkEntries {H : Type} : List (Lit × DataW H) → Nat
  | [] => 0
  | x :: r => uptoBulkEntry x + uptoBulkEntries r
def uptoBulkEntry {H : Type} : Lit × DataW H → Nat
  | (.string bytes, d) => bytes.length + uptoBulk d + 1
  | (_, d) => uptoBulk d + 1
 end
def uptoSmall : (H : Type) → List (DataW H) → Bool := fun _ ds => decide (uptoBulkAll ds ≤ 1048576)
def OpenSpec.upto (s : _root_.Go.ChangeSpec) : _root_.Go.OpenSpec := { _root_.Go.OpenSpec.ofChange s with cond := some uptoSmall }

/-- 'confidantlaw2.OrderTells', WHERE WHAT IT READS IS OF BULK AT MOST 1048576: true; the input reads as it did. -/
def orderTellsUptoRow : OpenClaim := { program := "ytopjhgaamjgcnaa", sum := "ca33144f5f7875f605235d9f0c19587b1aa7550df0ad89d7f21b8a46c2162deb", func := "confidant/confidantlaw2.OrderTells", spec := "orderTells", apart := false, narrowed := true }
def OrderTellsUptoSaid : Prop := orderTellsUptoRow.holds Try.pinned (OpenSpec.upto orderTellsSpec)

/-- 'confidantlaw2.OrderBounds', WHERE WHAT IT READS IS OF BULK AT MOST 1048576: true; the input reads as it did. -/
def orderBoundsUptoRow : OpenClaim := { program := "ytopjhgaamjgcnaa", sum := "ca33144f5f7875f605235d9f0c19587b1aa7550df0ad89d7f21b8a46c2162deb", func := "confidant/confidantlaw2.OrderBounds", spec := "orderBounds", apart := false, narrowed := true }
def OrderBoundsUptoSaid : Prop := orderBoundsUptoRow.holds Try.pinned (OpenSpec.upto orderBoundsSpec)

/-- 'confidantlaw2.OrderSquares', WHERE WHAT IT READS IS OF BULK AT MOST 1048576: true; the input reads as it did. -/
def orderSquaresUptoRow : OpenClaim := { program := "ytopjhgaamjgcnaa", sum := "ca33144f5f7875f605235d9f0c19587b1aa7550df0ad89d7f21b8a46c2162deb", func := "confidant/confidantlaw2.OrderSquares", spec := "orderSquares", apart := false, narrowed := true }
def OrderSquaresUptoSaid : Prop := orderSquaresUptoRow.holds Try.pinned (OpenSpec.upto orderSquaresSpec)

end Rows
end Go.Proofs.Ytopjhgaamjgcnaa
