/-
  No cell of these rows narrows 'for every input' (looked for: loops, veiled, ifaces, maps, wideKeys, modest, calm, conditions, laid).
  DERIVED. THE GIVEN ROWS OF THIS SEAT. 2 by the template 'for every input the law returns true; each argument reads behind the call as it read before'; 0 by the template 'total and deterministic' (their statements: YthffheakhadlhaaTotals.lean).
  GIVEN WITH THE SEED: the statements are not yours to turn. If you find one false, say at which input.
  Laid BY PROGRAM, IN A SANDBOX (cutbox-rows.mjs): the forced cells as the released guide's own fill.sh prints them over the translation d4ac246100fca408… (all of the seat's roots in one cut). By AI agents, Wed Nov 11 2026. No macro, syntax, notation, axiom, sorry.
-/
import Derived.Test.YthffheakhadlhaaChecked
import GoSem.Claim
import GoSem.ClaimJoined
import GoSem.ClaimMapViews
import Derived.JoinedTies
import Derived.KernelRfl
namespace Go.Proofs.Ythffheakhadlhaa
/- THE CELL 'sum', in the pinned program and in every row, IS THE sha256 OF THE DUMP (.gsa) THAT YthffheakhadlhaaProg.lean LOADS. Nothing in Lean hashes anything: it is a label: what it is worth is what the hold of that sum in a sandbox is worth. -/
noncomputable def Try.pinned : Pinned := { name := "ythffheakhadlhaa", sum := "d4ac246100fca408bc11d176d221e1d6538cf4939e7b482a5847755f0758d270", checked := Try.checked }
namespace Rows
def none {H : Type} : Left H := { results := [], args := [] }

/-- 'confidantlaw4.PrivTells': WHATEVER THE INPUT: true; the input reads as it did. -/
def privTellsSpec : ChangeSpec := { name := "privTells", fn := fun _ => fun
  | [d1, d2, d3] => { results := [.lit (.bool true)], args := [d1, d2, d3] }
  | _ => none }
def privTellsRow : OpenClaim := { program := "ythffheakhadlhaa", sum := "d4ac246100fca408bc11d176d221e1d6538cf4939e7b482a5847755f0758d270", func := "confidant/confidantlaw4.PrivTells", spec := "privTells", apart := false }
def PrivTellsSaid : Prop := privTellsRow.holds Try.pinned (OpenSpec.ofChange privTellsSpec)

/-- ITS FALSE NEIGHBOUR: 'it returns false'. Refute it at one input. -/
def privTellsWrong : ChangeSpec := { name := "privTells", fn := fun _ => fun
  | [d1, d2, d3] => { results := [.lit (.bool false)], args := [d1, d2, d3] }
  | _ => none }
def PrivTellsWrongFalsely : Prop := privTellsRow.holds Try.pinned (OpenSpec.ofChange privTellsWrong)

/-- 'confidantlaw4.PrivAll': WHATEVER THE INPUT: true; the input reads as it did. -/
def privAllSpec : ChangeSpec := { name := "privAll", fn := fun _ => fun
  | [d1, d2, d3, d4, d5] => { results := [.lit (.bool true)], args := [d1, d2, d3, d4, d5] }
  | _ => none }
def privAllRow : OpenClaim := { program := "ythffheakhadlhaa", sum := "d4ac246100fca408bc11d176d221e1d6538cf4939e7b482a5847755f0758d270", func := "confidant/confidantlaw4.PrivAll", spec := "privAll", apart := false }
def PrivAllSaid : Prop := privAllRow.holds Try.pinned (OpenSpec.ofChange privAllSpec)

/-- ITS FALSE NEIGHBOUR: 'it returns false'. Refute it at one input. -/
def privAllWrong : ChangeSpec := { name := "privAll", fn := fun _ => fun
  | [d1, d2, d3, d4, d5] => { results := [.lit (.bool false)], args := [d1, d2, d3, d4, d5] }
  | _ => none }
def PrivAllWrongFalsely : Prop := privAllRow.holds Try.pinned (OpenSpec.ofChange privAllWrong)

/- THE SECOND FORM. 'bulk': how many values and letters a reading holds, each counted each time it is reached (what is shared counts as often as it is met; a slice's spare places count too). A statement '..UptoSaid' is the law's where the arguments, and the package variables that the reading takes, are together of bulk at most 1048576: NARROWER than '..Said'. Prove '..Said' where nothing that the law and all that it calls make is longer than what came in: it says more and counts as full. Else prove '..UptoSaid'. A law counts once. -/
mutual
def uptoBulk {H : Type} : DataW H → Nat
  | .lit (.string bytes) => bytes.length + 1
  | .lit _ => 1
  | .nil => 1
  | .ptr d => uptoBulk d + 1
  | .slice elems spare => uptoBulkAll elems + uptoBulkAll spare + 1
  | .agg parts => uptoBulkAll parts + 1
  | .iface _ d => uptoBulk d + 1
  | .map entries => uptoBulkEntries entries + 1
  | .held _ => 1
def uptoBulkAll {H : Type} : List (DataW H) → Nat
  | [] => 0
  | d :: r => uptoBulk d + uptoBulkAll r
def uptoBulkEntries {H : Type} : List (Lit × DataW H) → Nat
  | [] => 0
  | x :: r => uptoBulkEntry x + uptoBulkEntries r
def uptoBulkEntry {H : Type} : Lit × DataW H → Nat
  | (.string bytes, d) => bytes.length + uptoBulk d + 1
  | (_, d) => uptoBulk d + 1
 end
def uptoSmall : (H : Type) → List (DataW H) → Bool := fun _ ds => decide (uptoBulkAll ds ≤ 1048576)
def OpenSpec.upto (s : _root_.Go.ChangeSpec) : _root_.Go.OpenSpec := { _root_.Go.OpenSpec.ofChange s with cond := some uptoSmall }

/-- 'confidantlaw4.PrivTells', WHERE WHAT IT READS IS OF BULK AT MOST 1048576: true; the input reads as it did. -/
def privTellsUptoRow : OpenClaim := { program := "ythffheakhadlhaa", sum := "d4ac246100fca408bc11d176d221e1d6538cf4939e7b482a5847755f0758d270", func := "confidant/confidantlaw4.PrivTells", spec := "privTells", apart := false, narrowed := true }
def PrivTellsUptoSaid : Prop := privTellsUptoRow.holds Try.pinned (OpenSpec.upto privTellsSpec)

/-- 'confidantlaw4.PrivAll', WHERE WHAT IT READS IS OF BULK AT MOST 1048576: true; the input reads as it did. -/
def privAllUptoRow : OpenClaim := { program := "ythffheakhadlhaa", sum := "d4ac246100fca408bc11d176d221e1d6538cf4939e7b482a5847755f0758d270", func := "confidant/confidantlaw4.PrivAll", spec := "privAll", apart := false, narrowed := true }
def PrivAllUptoSaid : Prop := privAllUptoRow.holds Try.pinned (OpenSpec.upto privAllSpec)

end Rows
end Go.Proofs.Ythffheakhadlhaa
