/-
  No cell of these rows narrows 'for every input' (looked for: loops, veiled, ifaces, maps, wideKeys, modest, calm, conditions, laid).
  DERIVED. THE GIVEN ROWS OF THIS SEAT. 12 by the template 'for every input the law returns true; each argument reads behind the call as it read before'; 0 by the template 'total and deterministic' (their statements: YtnelaeafjejjgaaTotals.lean).
  GIVEN WITH THE SEED: the statements are not yours to turn. If you find one false, say at which input.
  Laid BY PROGRAM, IN A SANDBOX (cutbox-rows.mjs): the forced cells as the released guide's own fill.sh prints them over the translation 81f11591836e964e… (all of the seat's roots in one cut). By AI agents, Wed Nov 11 2026. No macro, syntax, notation, axiom, sorry.
-/
import Derived.Test.YtnelaeafjejjgaaChecked
import GoSem.Claim
import GoSem.ClaimJoined
import GoSem.ClaimMapViews
import Derived.JoinedTies
import Derived.KernelRfl
namespace Go.Proofs.Ytnelaeafjejjgaa
/- THE CELL 'sum', in the pinned program and in every row, IS THE sha256 OF THE DUMP (.gsa) THAT YtnelaeafjejjgaaProg.lean LOADS. Nothing in Lean hashes anything: it is a label: what it is worth is what the hold of that sum in a sandbox is worth. -/
noncomputable def Try.pinned : Pinned := { name := "ytnelaeafjejjgaa", sum := "81f11591836e964e07957af051338481dfedc9288504e72b4965cc844315fb8a", checked := Try.checked }
namespace Rows
def none {H : Type} : Left H := { results := [], args := [] }

/-- 'confidantlaw14.InputTells': WHATEVER THE INPUT: true; the input reads as it did. -/
def inputTellsSpec : ChangeSpec := { name := "inputTells", fn := fun _ => fun
  | [d1, d2, d3, d4] => { results := [.lit (.bool true)], args := [d1, d2, d3, d4] }
  | _ => none }
def inputTellsRow : OpenClaim := { program := "ytnelaeafjejjgaa", sum := "81f11591836e964e07957af051338481dfedc9288504e72b4965cc844315fb8a", func := "confidant/confidantlaw14.InputTells", spec := "inputTells", apart := false }
def InputTellsSaid : Prop := inputTellsRow.holds Try.pinned (OpenSpec.ofChange inputTellsSpec)

/-- ITS FALSE NEIGHBOUR: 'it returns false'. Refute it at one input. -/
def inputTellsWrong : ChangeSpec := { name := "inputTells", fn := fun _ => fun
  | [d1, d2, d3, d4] => { results := [.lit (.bool false)], args := [d1, d2, d3, d4] }
  | _ => none }
def InputTellsWrongFalsely : Prop := inputTellsRow.holds Try.pinned (OpenSpec.ofChange inputTellsWrong)

/-- 'confidantlaw14.InputKeeps': WHATEVER THE INPUT: true; the input reads as it did. -/
def inputKeepsSpec : ChangeSpec := { name := "inputKeeps", fn := fun _ => fun
  | [d1, d2, d3] => { results := [.lit (.bool true)], args := [d1, d2, d3] }
  | _ => none }
def inputKeepsRow : OpenClaim := { program := "ytnelaeafjejjgaa", sum := "81f11591836e964e07957af051338481dfedc9288504e72b4965cc844315fb8a", func := "confidant/confidantlaw14.InputKeeps", spec := "inputKeeps", apart := false }
def InputKeepsSaid : Prop := inputKeepsRow.holds Try.pinned (OpenSpec.ofChange inputKeepsSpec)

/-- ITS FALSE NEIGHBOUR: 'it returns false'. Refute it at one input. -/
def inputKeepsWrong : ChangeSpec := { name := "inputKeeps", fn := fun _ => fun
  | [d1, d2, d3] => { results := [.lit (.bool false)], args := [d1, d2, d3] }
  | _ => none }
def InputKeepsWrongFalsely : Prop := inputKeepsRow.holds Try.pinned (OpenSpec.ofChange inputKeepsWrong)

/-- 'confidantlaw16.RngTells': WHATEVER THE INPUT: true; the input reads as it did. -/
def rngTellsSpec : ChangeSpec := { name := "rngTells", fn := fun _ => fun
  | [d1, d2, d3] => { results := [.lit (.bool true)], args := [d1, d2, d3] }
  | _ => none }
def rngTellsRow : OpenClaim := { program := "ytnelaeafjejjgaa", sum := "81f11591836e964e07957af051338481dfedc9288504e72b4965cc844315fb8a", func := "confidant/confidantlaw16.RngTells", spec := "rngTells", apart := false }
def RngTellsSaid : Prop := rngTellsRow.holds Try.pinned (OpenSpec.ofChange rngTellsSpec)

/-- ITS FALSE NEIGHBOUR: 'it returns false'. Refute it at one input. -/
def rngTellsWrong : ChangeSpec := { name := "rngTells", fn := fun _ => fun
  | [d1, d2, d3] => { results := [.lit (.bool false)], args := [d1, d2, d3] }
  | _ => none }
def RngTellsWrongFalsely : Prop := rngTellsRow.holds Try.pinned (OpenSpec.ofChange rngTellsWrong)

/-- 'confidantlaw16.RngBack': WHATEVER THE INPUT: true; the input reads as it did. -/
def rngBackSpec : ChangeSpec := { name := "rngBack", fn := fun _ => fun
  | [d1, d2, d3] => { results := [.lit (.bool true)], args := [d1, d2, d3] }
  | _ => none }
def rngBackRow : OpenClaim := { program := "ytnelaeafjejjgaa", sum := "81f11591836e964e07957af051338481dfedc9288504e72b4965cc844315fb8a", func := "confidant/confidantlaw16.RngBack", spec := "rngBack", apart := false }
def RngBackSaid : Prop := rngBackRow.holds Try.pinned (OpenSpec.ofChange rngBackSpec)

/-- ITS FALSE NEIGHBOUR: 'it returns false'. Refute it at one input. -/
def rngBackWrong : ChangeSpec := { name := "rngBack", fn := fun _ => fun
  | [d1, d2, d3] => { results := [.lit (.bool false)], args := [d1, d2, d3] }
  | _ => none }
def RngBackWrongFalsely : Prop := rngBackRow.holds Try.pinned (OpenSpec.ofChange rngBackWrong)

/-- 'confidantlaw16.RngLong': WHATEVER THE INPUT: true; the input reads as it did. -/
def rngLongSpec : ChangeSpec := { name := "rngLong", fn := fun _ => fun
  | [d1, d2] => { results := [.lit (.bool true)], args := [d1, d2] }
  | _ => none }
def rngLongRow : OpenClaim := { program := "ytnelaeafjejjgaa", sum := "81f11591836e964e07957af051338481dfedc9288504e72b4965cc844315fb8a", func := "confidant/confidantlaw16.RngLong", spec := "rngLong", apart := false }
def RngLongSaid : Prop := rngLongRow.holds Try.pinned (OpenSpec.ofChange rngLongSpec)

/-- ITS FALSE NEIGHBOUR: 'it returns false'. Refute it at one input. -/
def rngLongWrong : ChangeSpec := { name := "rngLong", fn := fun _ => fun
  | [d1, d2] => { results := [.lit (.bool false)], args := [d1, d2] }
  | _ => none }
def RngLongWrongFalsely : Prop := rngLongRow.holds Try.pinned (OpenSpec.ofChange rngLongWrong)

/-- 'confidantlaw16.RngSpreads': WHATEVER THE INPUT: true; the input reads as it did. -/
def rngSpreadsSpec : ChangeSpec := { name := "rngSpreads", fn := fun _ => fun
  | [d1, d2, d3] => { results := [.lit (.bool true)], args := [d1, d2, d3] }
  | _ => none }
def rngSpreadsRow : OpenClaim := { program := "ytnelaeafjejjgaa", sum := "81f11591836e964e07957af051338481dfedc9288504e72b4965cc844315fb8a", func := "confidant/confidantlaw16.RngSpreads", spec := "rngSpreads", apart := false }
def RngSpreadsSaid : Prop := rngSpreadsRow.holds Try.pinned (OpenSpec.ofChange rngSpreadsSpec)

/-- ITS FALSE NEIGHBOUR: 'it returns false'. Refute it at one input. -/
def rngSpreadsWrong : ChangeSpec := { name := "rngSpreads", fn := fun _ => fun
  | [d1, d2, d3] => { results := [.lit (.bool false)], args := [d1, d2, d3] }
  | _ => none }
def RngSpreadsWrongFalsely : Prop := rngSpreadsRow.holds Try.pinned (OpenSpec.ofChange rngSpreadsWrong)

/-- 'confidantlaw17.PicksTell': WHATEVER THE INPUT: true; the input reads as it did. -/
def picksTellSpec : ChangeSpec := { name := "picksTell", fn := fun _ => fun
  | [d1, d2, d3] => { results := [.lit (.bool true)], args := [d1, d2, d3] }
  | _ => none }
def picksTellRow : OpenClaim := { program := "ytnelaeafjejjgaa", sum := "81f11591836e964e07957af051338481dfedc9288504e72b4965cc844315fb8a", func := "confidant/confidantlaw17.PicksTell", spec := "picksTell", unfollowed := true, recurses := true, apart := false }
def PicksTellSaid : Prop := picksTellRow.holds Try.pinned (OpenSpec.ofChange picksTellSpec)

/-- ITS FALSE NEIGHBOUR: 'it returns false'. Refute it at one input. -/
def picksTellWrong : ChangeSpec := { name := "picksTell", fn := fun _ => fun
  | [d1, d2, d3] => { results := [.lit (.bool false)], args := [d1, d2, d3] }
  | _ => none }
def PicksTellWrongFalsely : Prop := picksTellRow.holds Try.pinned (OpenSpec.ofChange picksTellWrong)

/-- 'confidantlaw17.PicksFirst': WHATEVER THE INPUT: true; the input reads as it did. -/
def picksFirstSpec : ChangeSpec := { name := "picksFirst", fn := fun _ => fun
  | [d1, d2, d3] => { results := [.lit (.bool true)], args := [d1, d2, d3] }
  | _ => none }
def picksFirstRow : OpenClaim := { program := "ytnelaeafjejjgaa", sum := "81f11591836e964e07957af051338481dfedc9288504e72b4965cc844315fb8a", func := "confidant/confidantlaw17.PicksFirst", spec := "picksFirst", unfollowed := true, recurses := true, apart := false }
def PicksFirstSaid : Prop := picksFirstRow.holds Try.pinned (OpenSpec.ofChange picksFirstSpec)

/-- ITS FALSE NEIGHBOUR: 'it returns false'. Refute it at one input. -/
def picksFirstWrong : ChangeSpec := { name := "picksFirst", fn := fun _ => fun
  | [d1, d2, d3] => { results := [.lit (.bool false)], args := [d1, d2, d3] }
  | _ => none }
def PicksFirstWrongFalsely : Prop := picksFirstRow.holds Try.pinned (OpenSpec.ofChange picksFirstWrong)

/-- 'confidantlaw18.TableTells': WHATEVER THE INPUT: true; the input reads as it did. -/
def tableTellsSpec : ChangeSpec := { name := "tableTells", fn := fun _ => fun
  | [d1, d2, d3, d4, d5, d6, d7] => { results := [.lit (.bool true)], args := [d1, d2, d3, d4, d5, d6, d7] }
  | _ => none }
def tableTellsRow : OpenClaim := { program := "ytnelaeafjejjgaa", sum := "81f11591836e964e07957af051338481dfedc9288504e72b4965cc844315fb8a", func := "confidant/confidantlaw18.TableTells", spec := "tableTells", apart := false }
def TableTellsSaid : Prop := tableTellsRow.holds Try.pinned (OpenSpec.ofChange tableTellsSpec)

/-- ITS FALSE NEIGHBOUR: 'it returns false'. Refute it at one input. -/
def tableTellsWrong : ChangeSpec := { name := "tableTells", fn := fun _ => fun
  | [d1, d2, d3, d4, d5, d6, d7] => { results := [.lit (.bool false)], args := [d1, d2, d3, d4, d5, d6, d7] }
  | _ => none }
def TableTellsWrongFalsely : Prop := tableTellsRow.holds Try.pinned (OpenSpec.ofChange tableTellsWrong)

/-- 'confidantlaw18.TableShares': WHATEVER THE INPUT: true; the input reads as it did. -/
def tableSharesSpec : ChangeSpec := { name := "tableShares", fn := fun _ => fun
  | [d1, d2, d3, d4] => { results := [.lit (.bool true)], args := [d1, d2, d3, d4] }
  | _ => none }
def tableSharesRow : OpenClaim := { program := "ytnelaeafjejjgaa", sum := "81f11591836e964e07957af051338481dfedc9288504e72b4965cc844315fb8a", func := "confidant/confidantlaw18.TableShares", spec := "tableShares", apart := false }
def TableSharesSaid : Prop := tableSharesRow.holds Try.pinned (OpenSpec.ofChange tableSharesSpec)

/-- ITS FALSE NEIGHBOUR: 'it returns false'. Refute it at one input. -/
def tableSharesWrong : ChangeSpec := { name := "tableShares", fn := fun _ => fun
  | [d1, d2, d3, d4] => { results := [.lit (.bool false)], args := [d1, d2, d3, d4] }
  | _ => none }
def TableSharesWrongFalsely : Prop := tableSharesRow.holds Try.pinned (OpenSpec.ofChange tableSharesWrong)

/-- 'confidantlaw18.TableTurns': WHATEVER THE INPUT: true; the input reads as it did. -/
def tableTurnsSpec : ChangeSpec := { name := "tableTurns", fn := fun _ => fun
  | [d1, d2, d3] => { results := [.lit (.bool true)], args := [d1, d2, d3] }
  | _ => none }
def tableTurnsRow : OpenClaim := { program := "ytnelaeafjejjgaa", sum := "81f11591836e964e07957af051338481dfedc9288504e72b4965cc844315fb8a", func := "confidant/confidantlaw18.TableTurns", spec := "tableTurns", apart := false }
def TableTurnsSaid : Prop := tableTurnsRow.holds Try.pinned (OpenSpec.ofChange tableTurnsSpec)

/-- ITS FALSE NEIGHBOUR: 'it returns false'. Refute it at one input. -/
def tableTurnsWrong : ChangeSpec := { name := "tableTurns", fn := fun _ => fun
  | [d1, d2, d3] => { results := [.lit (.bool false)], args := [d1, d2, d3] }
  | _ => none }
def TableTurnsWrongFalsely : Prop := tableTurnsRow.holds Try.pinned (OpenSpec.ofChange tableTurnsWrong)

/-- 'confidantlaw18.TableNext': WHATEVER THE INPUT: true; the input reads as it did. -/
def tableNextSpec : ChangeSpec := { name := "tableNext", fn := fun _ => fun
  | [d1, d2, d3] => { results := [.lit (.bool true)], args := [d1, d2, d3] }
  | _ => none }
def tableNextRow : OpenClaim := { program := "ytnelaeafjejjgaa", sum := "81f11591836e964e07957af051338481dfedc9288504e72b4965cc844315fb8a", func := "confidant/confidantlaw18.TableNext", spec := "tableNext", apart := false }
def TableNextSaid : Prop := tableNextRow.holds Try.pinned (OpenSpec.ofChange tableNextSpec)

/-- ITS FALSE NEIGHBOUR: 'it returns false'. Refute it at one input. -/
def tableNextWrong : ChangeSpec := { name := "tableNext", fn := fun _ => fun
  | [d1, d2, d3] => { results := [.lit (.bool false)], args := [d1, d2, d3] }
  | _ => none }
def TableNextWrongFalsely : Prop := tableNextRow.holds Try.pinned (OpenSpec.ofChange tableNextWrong)

/- THE SECOND FORM. 'bulk': how many values and letters a reading holds, each counted each time it is reached (what is shared counts as often as it is met; a slice's spare places count too). A statement '..UptoSaid' is the law's where the arguments, and the package variables that the reading takes, are together of bulk at most 1048576: NARROWER than '..Said'. Prove '..Said' where nothing that the law and all that it calls make is longer than what came in: it says more and counts as full. Else prove '..UptoSaid'. A law counts once. -/
mutual
def uptoBulk {H : Type} : DataW H → Nat
  | .lit (.string bytes) => bytes.length + 1
  | .lit _ => 1
  | .nil => 1
  | .ptr d => uptoBulk d + 1
  | .slice elems spare => uptoBulkAll elems + uptoBulkAll spare + 1
  | .agg parts => uptoBulkAll parts + 1
  | .iface _ d => uptoBulk d + 1
  | .map entries => uptoBulkEntries entries + 1
  | .held _ => 1
def uptoBulkAll {H : Type} : List (DataW H) → Nat
  | [] => 0
  | d :: r => uptoBulk d + uptoBulkAll r
def uptoBulkEntries {H : Type} : List (Lit × DataW H) → Nat
  | [] => 0
  | x :: r => uptoBulkEntry x + uptoBulkEntries r
def uptoBulkEntry {H : Type} : Lit × DataW H → Nat
  | (.string bytes, d) => bytes.length + uptoBulk d + 1
  | (_, d) => uptoBulk d + 1
 end
def uptoSmall : (H : Type) → List (DataW H) → Bool := fun _ ds => decide (uptoBulkAll ds ≤ 1048576)
def OpenSpec.upto (s : _root_.Go.ChangeSpec) : _root_.Go.OpenSpec := { _root_.Go.OpenSpec.ofChange s with cond := some uptoSmall }

/-- 'confidantlaw14.InputTells', WHERE WHAT IT READS IS OF BULK AT MOST 1048576: true; the input reads as it did. -/
def inputTellsUptoRow : OpenClaim := { program := "ytnelaeafjejjgaa", sum := "81f11591836e964e07957af051338481dfedc9288504e72b4965cc844315fb8a", func := "confidant/confidantlaw14.InputTells", spec := "inputTells", apart := false, narrowed := true }
def InputTellsUptoSaid : Prop := inputTellsUptoRow.holds Try.pinned (OpenSpec.upto inputTellsSpec)

/-- 'confidantlaw14.InputKeeps', WHERE WHAT IT READS IS OF BULK AT MOST 1048576: true; the input reads as it did. -/
def inputKeepsUptoRow : OpenClaim := { program := "ytnelaeafjejjgaa", sum := "81f11591836e964e07957af051338481dfedc9288504e72b4965cc844315fb8a", func := "confidant/confidantlaw14.InputKeeps", spec := "inputKeeps", apart := false, narrowed := true }
def InputKeepsUptoSaid : Prop := inputKeepsUptoRow.holds Try.pinned (OpenSpec.upto inputKeepsSpec)

/-- 'confidantlaw16.RngTells', WHERE WHAT IT READS IS OF BULK AT MOST 1048576: true; the input reads as it did. -/
def rngTellsUptoRow : OpenClaim := { program := "ytnelaeafjejjgaa", sum := "81f11591836e964e07957af051338481dfedc9288504e72b4965cc844315fb8a", func := "confidant/confidantlaw16.RngTells", spec := "rngTells", apart := false, narrowed := true }
def RngTellsUptoSaid : Prop := rngTellsUptoRow.holds Try.pinned (OpenSpec.upto rngTellsSpec)

/-- 'confidantlaw16.RngBack', WHERE WHAT IT READS IS OF BULK AT MOST 1048576: true; the input reads as it did. -/
def rngBackUptoRow : OpenClaim := { program := "ytnelaeafjejjgaa", sum := "81f11591836e964e07957af051338481dfedc9288504e72b4965cc844315fb8a", func := "confidant/confidantlaw16.RngBack", spec := "rngBack", apart := false, narrowed := true }
def RngBackUptoSaid : Prop := rngBackUptoRow.holds Try.pinned (OpenSpec.upto rngBackSpec)

/-- 'confidantlaw16.RngLong', WHERE WHAT IT READS IS OF BULK AT MOST 1048576: true; the input reads as it did. -/
def rngLongUptoRow : OpenClaim := { program := "ytnelaeafjejjgaa", sum := "81f11591836e964e07957af051338481dfedc9288504e72b4965cc844315fb8a", func := "confidant/confidantlaw16.RngLong", spec := "rngLong", apart := false, narrowed := true }
def RngLongUptoSaid : Prop := rngLongUptoRow.holds Try.pinned (OpenSpec.upto rngLongSpec)

/-- 'confidantlaw16.RngSpreads', WHERE WHAT IT READS IS OF BULK AT MOST 1048576: true; the input reads as it did. -/
def rngSpreadsUptoRow : OpenClaim := { program := "ytnelaeafjejjgaa", sum := "81f11591836e964e07957af051338481dfedc9288504e72b4965cc844315fb8a", func := "confidant/confidantlaw16.RngSpreads", spec := "rngSpreads", apart := false, narrowed := true }
def RngSpreadsUptoSaid : Prop := rngSpreadsUptoRow.holds Try.pinned (OpenSpec.upto rngSpreadsSpec)

/-- 'confidantlaw17.PicksTell', WHERE WHAT IT READS IS OF BULK AT MOST 1048576: true; the input reads as it did. -/
def picksTellUptoRow : OpenClaim := { program := "ytnelaeafjejjgaa", sum := "81f11591836e964e07957af051338481dfedc9288504e72b4965cc844315fb8a", func := "confidant/confidantlaw17.PicksTell", spec := "picksTell", unfollowed := true, recurses := true, apart := false, narrowed := true }
def PicksTellUptoSaid : Prop := picksTellUptoRow.holds Try.pinned (OpenSpec.upto picksTellSpec)

/-- 'confidantlaw17.PicksFirst', WHERE WHAT IT READS IS OF BULK AT MOST 1048576: true; the input reads as it did. -/
def picksFirstUptoRow : OpenClaim := { program := "ytnelaeafjejjgaa", sum := "81f11591836e964e07957af051338481dfedc9288504e72b4965cc844315fb8a", func := "confidant/confidantlaw17.PicksFirst", spec := "picksFirst", unfollowed := true, recurses := true, apart := false, narrowed := true }
def PicksFirstUptoSaid : Prop := picksFirstUptoRow.holds Try.pinned (OpenSpec.upto picksFirstSpec)

/-- 'confidantlaw18.TableTells', WHERE WHAT IT READS IS OF BULK AT MOST 1048576: true; the input reads as it did. -/
def tableTellsUptoRow : OpenClaim := { program := "ytnelaeafjejjgaa", sum := "81f11591836e964e07957af051338481dfedc9288504e72b4965cc844315fb8a", func := "confidant/confidantlaw18.TableTells", spec := "tableTells", apart := false, narrowed := true }
def TableTellsUptoSaid : Prop := tableTellsUptoRow.holds Try.pinned (OpenSpec.upto tableTellsSpec)

/-- 'confidantlaw18.TableShares', WHERE WHAT IT READS IS OF BULK AT MOST 1048576: true; the input reads as it did. -/
def tableSharesUptoRow : OpenClaim := { program := "ytnelaeafjejjgaa", sum := "81f11591836e964e07957af051338481dfedc9288504e72b4965cc844315fb8a", func := "confidant/confidantlaw18.TableShares", spec := "tableShares", apart := false, narrowed := true }
def TableSharesUptoSaid : Prop := tableSharesUptoRow.holds Try.pinned (OpenSpec.upto tableSharesSpec)

/-- 'confidantlaw18.TableTurns', WHERE WHAT IT READS IS OF BULK AT MOST 1048576: true; the input reads as it did. -/
def tableTurnsUptoRow : OpenClaim := { program := "ytnelaeafjejjgaa", sum := "81f11591836e964e07957af051338481dfedc9288504e72b4965cc844315fb8a", func := "confidant/confidantlaw18.TableTurns", spec := "tableTurns", apart := false, narrowed := true }
def TableTurnsUptoSaid : Prop := tableTurnsUptoRow.holds Try.pinned (OpenSpec.upto tableTurnsSpec)

/-- 'confidantlaw18.TableNext', WHERE WHAT IT READS IS OF BULK AT MOST 1048576: true; the input reads as it did. -/
def tableNextUptoRow : OpenClaim := { program := "ytnelaeafjejjgaa", sum := "81f11591836e964e07957af051338481dfedc9288504e72b4965cc844315fb8a", func := "confidant/confidantlaw18.TableNext", spec := "tableNext", apart := false, narrowed := true }
def TableNextUptoSaid : Prop := tableNextUptoRow.holds Try.pinned (OpenSpec.upto tableNextSpec)

end Rows
end Go.Proofs.Ytnelaeafjejjgaa
