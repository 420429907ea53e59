/-
  No cell of these rows narrows 'for every input' (looked for: loops, veiled, ifaces, maps, wideKeys, modest, calm, conditions, laid).
  DERIVED. THE GIVEN ROWS OF THIS SEAT. 5 by the template 'for every input the law returns true; each argument reads behind the call as it read before'; 0 by the template 'total and deterministic' (their statements: YtidjohhnggpibaaTotals.lean).
  GIVEN WITH THE SEED: the statements are not yours to turn. If you find one false, say at which input.
  Laid BY PROGRAM, IN A SANDBOX (cutbox-rows.mjs): the forced cells as the released guide's own fill.sh prints them over the translation 1b49599396886973… (all of the seat's roots in one cut). By AI agents, Wed Nov 11 2026. No macro, syntax, notation, axiom, sorry.
-/
import Derived.Test.YtidjohhnggpibaaChecked
import GoSem.Claim
import GoSem.ClaimJoined
import GoSem.ClaimMapViews
import Derived.JoinedTies
import Derived.KernelRfl
namespace Go.Proofs.Ytidjohhnggpibaa
/- THE CELL 'sum', in the pinned program and in every row, IS THE sha256 OF THE DUMP (.gsa) THAT YtidjohhnggpibaaProg.lean LOADS. Nothing in Lean hashes anything: it is a label: what it is worth is what the hold of that sum in a sandbox is worth. -/
noncomputable def Try.pinned : Pinned := { name := "ytidjohhnggpibaa", sum := "1b49599396886973c499df9f79f3cd592303470e21a5fcc89aa0864e3f37c5a8", checked := Try.checked }
namespace Rows
def none {H : Type} : Left H := { results := [], args := [] }

/-- 'confidantlaw3.LatticeTells': WHATEVER THE INPUT: true; the input reads as it did. -/
def latticeTellsSpec : ChangeSpec := { name := "latticeTells", fn := fun _ => fun
  | [d1, d2, d3, d4, d5, d6, d7] => { results := [.lit (.bool true)], args := [d1, d2, d3, d4, d5, d6, d7] }
  | _ => none }
def latticeTellsRow : OpenClaim := { program := "ytidjohhnggpibaa", sum := "1b49599396886973c499df9f79f3cd592303470e21a5fcc89aa0864e3f37c5a8", func := "confidant/confidantlaw3.LatticeTells", spec := "latticeTells", unfollowed := true, recurses := true, apart := false }
def LatticeTellsSaid : Prop := latticeTellsRow.holds Try.pinned (OpenSpec.ofChange latticeTellsSpec)

/-- ITS FALSE NEIGHBOUR: 'it returns false'. Refute it at one input. -/
def latticeTellsWrong : ChangeSpec := { name := "latticeTells", fn := fun _ => fun
  | [d1, d2, d3, d4, d5, d6, d7] => { results := [.lit (.bool false)], args := [d1, d2, d3, d4, d5, d6, d7] }
  | _ => none }
def LatticeTellsWrongFalsely : Prop := latticeTellsRow.holds Try.pinned (OpenSpec.ofChange latticeTellsWrong)

/-- 'confidantlaw3.LatticeLaws': WHATEVER THE INPUT: true; the input reads as it did. -/
def latticeLawsSpec : ChangeSpec := { name := "latticeLaws", fn := fun _ => fun
  | [d1, d2, d3, d4] => { results := [.lit (.bool true)], args := [d1, d2, d3, d4] }
  | _ => none }
def latticeLawsRow : OpenClaim := { program := "ytidjohhnggpibaa", sum := "1b49599396886973c499df9f79f3cd592303470e21a5fcc89aa0864e3f37c5a8", func := "confidant/confidantlaw3.LatticeLaws", spec := "latticeLaws", unfollowed := true, recurses := true, apart := false }
def LatticeLawsSaid : Prop := latticeLawsRow.holds Try.pinned (OpenSpec.ofChange latticeLawsSpec)

/-- ITS FALSE NEIGHBOUR: 'it returns false'. Refute it at one input. -/
def latticeLawsWrong : ChangeSpec := { name := "latticeLaws", fn := fun _ => fun
  | [d1, d2, d3, d4] => { results := [.lit (.bool false)], args := [d1, d2, d3, d4] }
  | _ => none }
def LatticeLawsWrongFalsely : Prop := latticeLawsRow.holds Try.pinned (OpenSpec.ofChange latticeLawsWrong)

/-- 'confidantlaw3.LatticeMade': WHATEVER THE INPUT: true; the input reads as it did. -/
def latticeMadeSpec : ChangeSpec := { name := "latticeMade", fn := fun _ => fun
  | [d1, d2] => { results := [.lit (.bool true)], args := [d1, d2] }
  | _ => none }
def latticeMadeRow : OpenClaim := { program := "ytidjohhnggpibaa", sum := "1b49599396886973c499df9f79f3cd592303470e21a5fcc89aa0864e3f37c5a8", func := "confidant/confidantlaw3.LatticeMade", spec := "latticeMade", unfollowed := true, recurses := true, apart := false }
def LatticeMadeSaid : Prop := latticeMadeRow.holds Try.pinned (OpenSpec.ofChange latticeMadeSpec)

/-- ITS FALSE NEIGHBOUR: 'it returns false'. Refute it at one input. -/
def latticeMadeWrong : ChangeSpec := { name := "latticeMade", fn := fun _ => fun
  | [d1, d2] => { results := [.lit (.bool false)], args := [d1, d2] }
  | _ => none }
def LatticeMadeWrongFalsely : Prop := latticeMadeRow.holds Try.pinned (OpenSpec.ofChange latticeMadeWrong)

/-- 'confidantlaw3.LatticeBelow': WHATEVER THE INPUT: true; the input reads as it did. -/
def latticeBelowSpec : ChangeSpec := { name := "latticeBelow", fn := fun _ => fun
  | [d1, d2] => { results := [.lit (.bool true)], args := [d1, d2] }
  | _ => none }
def latticeBelowRow : OpenClaim := { program := "ytidjohhnggpibaa", sum := "1b49599396886973c499df9f79f3cd592303470e21a5fcc89aa0864e3f37c5a8", func := "confidant/confidantlaw3.LatticeBelow", spec := "latticeBelow", unfollowed := true, recurses := true, apart := false }
def LatticeBelowSaid : Prop := latticeBelowRow.holds Try.pinned (OpenSpec.ofChange latticeBelowSpec)

/-- ITS FALSE NEIGHBOUR: 'it returns false'. Refute it at one input. -/
def latticeBelowWrong : ChangeSpec := { name := "latticeBelow", fn := fun _ => fun
  | [d1, d2] => { results := [.lit (.bool false)], args := [d1, d2] }
  | _ => none }
def LatticeBelowWrongFalsely : Prop := latticeBelowRow.holds Try.pinned (OpenSpec.ofChange latticeBelowWrong)

/-- 'confidantlaw3.LatticeKeeps': WHATEVER THE INPUT: true; the input reads as it did. -/
def latticeKeepsSpec : ChangeSpec := { name := "latticeKeeps", fn := fun _ => fun
  | [d1, d2, d3] => { results := [.lit (.bool true)], args := [d1, d2, d3] }
  | _ => none }
def latticeKeepsRow : OpenClaim := { program := "ytidjohhnggpibaa", sum := "1b49599396886973c499df9f79f3cd592303470e21a5fcc89aa0864e3f37c5a8", func := "confidant/confidantlaw3.LatticeKeeps", spec := "latticeKeeps", unfollowed := true, recurses := true, apart := false }
def LatticeKeepsSaid : Prop := latticeKeepsRow.holds Try.pinned (OpenSpec.ofChange latticeKeepsSpec)

/-- ITS FALSE NEIGHBOUR: 'it returns false'. Refute it at one input. -/
def latticeKeepsWrong : ChangeSpec := { name := "latticeKeeps", fn := fun _ => fun
  | [d1, d2, d3] => { results := [.lit (.bool false)], args := [d1, d2, d3] }
  | _ => none }
def LatticeKeepsWrongFalsely : Prop := latticeKeepsRow.holds Try.pinned (OpenSpec.ofChange latticeKeepsWrong)

/- THE SECOND FORM. 'bulk': how many values and letters a reading holds, each counted each time it is reached (what is shared counts as often as it is met; a slice's spare places count too). A statement '..UptoSaid' is the law's where the arguments, and the package variables that the reading takes, are together of bulk at most 1048576: NARROWER than '..Said'. Prove '..Said' where nothing that the law and all that it calls make is longer than what came in: it says more and counts as full. Else prove '..UptoSaid'. A law counts once. -/
mutual
def uptoBulk {H : Type} : DataW H → Nat
  | .lit (.string bytes) => bytes.length + 1
  | .lit _ => 1
  | .nil => 1
  | .ptr d => uptoBulk d + 1
  | .slice elems spare => uptoBulkAll elems + uptoBulkAll spare + 1
  | .agg parts => uptoBulkAll parts + 1
  | .iface _ d => uptoBulk d + 1
  | .map entries => uptoBulkEntries entries + 1
  | .held _ => 1
def uptoBulkAll {H : Type} : List (DataW H) → Nat
  | [] => 0
  | d :: r => uptoBulk d + uptoBulkAll r
def uptoBulkEntries {H : Type} : List (Lit × DataW H) → Nat
  | [] => 0
  | x :: r => uptoBulkEntry x + uptoBulkEntries r
def uptoBulkEntry {H : Type} : Lit × DataW H → Nat
  | (.string bytes, d) => bytes.length + uptoBulk d + 1
  | (_, d) => uptoBulk d + 1
 end
def uptoSmall : (H : Type) → List (DataW H) → Bool := fun _ ds => decide (uptoBulkAll ds ≤ 1048576)
def OpenSpec.upto (s : _root_.Go.ChangeSpec) : _root_.Go.OpenSpec := { _root_.Go.OpenSpec.ofChange s with cond := some uptoSmall }

/-- 'confidantlaw3.LatticeTells', WHERE WHAT IT READS IS OF BULK AT MOST 1048576: true; the input reads as it did. -/
def latticeTellsUptoRow : OpenClaim := { program := "ytidjohhnggpibaa", sum := "1b49599396886973c499df9f79f3cd592303470e21a5fcc89aa0864e3f37c5a8", func := "confidant/confidantlaw3.LatticeTells", spec := "latticeTells", unfollowed := true, recurses := true, apart := false, narrowed := true }
def LatticeTellsUptoSaid : Prop := latticeTellsUptoRow.holds Try.pinned (OpenSpec.upto latticeTellsSpec)

/-- 'confidantlaw3.LatticeLaws', WHERE WHAT IT READS IS OF BULK AT MOST 1048576: true; the input reads as it did. -/
def latticeLawsUptoRow : OpenClaim := { program := "ytidjohhnggpibaa", sum := "1b49599396886973c499df9f79f3cd592303470e21a5fcc89aa0864e3f37c5a8", func := "confidant/confidantlaw3.LatticeLaws", spec := "latticeLaws", unfollowed := true, recurses := true, apart := false, narrowed := true }
def LatticeLawsUptoSaid : Prop := latticeLawsUptoRow.holds Try.pinned (OpenSpec.upto latticeLawsSpec)

/-- 'confidantlaw3.LatticeMade', WHERE WHAT IT READS IS OF BULK AT MOST 1048576: true; the input reads as it did. -/
def latticeMadeUptoRow : OpenClaim := { program := "ytidjohhnggpibaa", sum := "1b49599396886973c499df9f79f3cd592303470e21a5fcc89aa0864e3f37c5a8", func := "confidant/confidantlaw3.LatticeMade", spec := "latticeMade", unfollowed := true, recurses := true, apart := false, narrowed := true }
def LatticeMadeUptoSaid : Prop := latticeMadeUptoRow.holds Try.pinned (OpenSpec.upto latticeMadeSpec)

/-- 'confidantlaw3.LatticeBelow', WHERE WHAT IT READS IS OF BULK AT MOST 1048576: true; the input reads as it did. -/
def latticeBelowUptoRow : OpenClaim := { program := "ytidjohhnggpibaa", sum := "1b49599396886973c499df9f79f3cd592303470e21a5fcc89aa0864e3f37c5a8", func := "confidant/confidantlaw3.LatticeBelow", spec := "latticeBelow", unfollowed := true, recurses := true, apart := false, narrowed := true }
def LatticeBelowUptoSaid : Prop := latticeBelowUptoRow.holds Try.pinned (OpenSpec.upto latticeBelowSpec)

/-- 'confidantlaw3.LatticeKeeps', WHERE WHAT IT READS IS OF BULK AT MOST 1048576: true; the input reads as it did. -/
def latticeKeepsUptoRow : OpenClaim := { program := "ytidjohhnggpibaa", sum := "1b49599396886973c499df9f79f3cd592303470e21a5fcc89aa0864e3f37c5a8", func := "confidant/confidantlaw3.LatticeKeeps", spec := "latticeKeeps", unfollowed := true, recurses := true, apart := false, narrowed := true }
def LatticeKeepsUptoSaid : Prop := latticeKeepsUptoRow.holds Try.pinned (OpenSpec.upto latticeKeepsSpec)

end Rows
end Go.Proofs.Ytidjohhnggpibaa
