/-
  NARROWER THAN 'FOR EVERY INPUT', by the rows' own cells (each row's printed sentence says how): OpsTell: laid · OpsAll: laid · OpsNames: laid.
  DERIVED. THE GIVEN ROWS OF THIS SEAT. 3 by the template 'for every input the law returns true; each argument reads behind the call as it read before'; 0 by the template 'total and deterministic' (their statements: YtampbnkbmaagnaaDoorTotals.lean).
  GIVEN WITH THE SEED: the statements are not yours to turn. If you find one false, say at which input.
  Laid BY PROGRAM, IN A SANDBOX (cutbox-rows.mjs): the forced cells as the released guide's own fill.sh prints them over the translation 7d21c1de53686a00… (all of the seat's roots in one cut). By AI agents, Wed Nov 11 2026. No macro, syntax, notation, axiom, sorry.
-/
import Derived.Test.YtampbnkbmaagnaaDoorChecked
import GoSem.Claim
import GoSem.ClaimJoined
import GoSem.ClaimMapViews
import Derived.JoinedTies
import Derived.KernelRfl
namespace Go.Proofs.YtampbnkbmaagnaaDoor
/- THE CELL 'sum', in the pinned program and in every row, IS THE sha256 OF THE DUMP (.gsa) THAT YtampbnkbmaagnaaDoorProg.lean LOADS. Nothing in Lean hashes anything: it is a label: what it is worth is what the hold of that sum in a sandbox is worth. -/
noncomputable def Tryd.pinned : Pinned := { name := "ytampbnkbmaagnaadoor", sum := "7d21c1de53686a0048194739452a61638580b7c1b24fa354501805d82cd27a76", checked := Tryd.checked }
namespace Rows
def none {H : Type} : Left H := { results := [], args := [] }

/- WHAT THE LISTED PACKAGE-LEVEL VARIABLES READ AS WHEN THE CALL BEGINS. Each datum BY PROGRAM (the guide's laid-datum.mjs) off the statement by which the dump's own 'gosem.cut.vars' lays the variable. In a bare row this is a premise. The card (YtampbnkbmaagnaaDoorCards.lean) ties it to the program's text. -/
def laid_confidant_ops_names {H : Type} : DataW H := .agg [.lit (.string []), .lit (.string [112, 117, 115, 104]), .lit (.string [112, 111, 112]), .lit (.string [100, 117, 112]), .lit (.string [97, 100, 100]), .lit (.string [115, 117, 98]), .lit (.string [109, 117, 108]), .lit (.string [100, 105, 118]), .lit (.string [108, 101, 115, 115]), .lit (.string [101, 113]), .lit (.string [106, 117, 109, 112]), .lit (.string [106, 117, 109, 112, 122]), .lit (.string [108, 111, 97, 100]), .lit (.string [115, 116, 111, 114, 101]), .lit (.string [108, 97, 98, 101, 108]), .lit (.string [114, 97, 105, 115, 101]), .lit (.string [105, 110, 112, 117, 116]), .lit (.string [110, 101, 119]), .lit (.string [114, 101, 97, 100]), .lit (.string [119, 114, 105, 116, 101]), .lit (.string [102, 111, 114, 107]), .lit (.string [119, 97, 105, 116]), .lit (.string [101, 109, 105, 116]), .lit (.string [114, 101, 108, 101, 97, 115, 101]), .lit (.string [116, 97, 107, 101]), .lit (.string [114, 101, 116]), .lit (.string [102, 97, 105, 108])]

/-- 'confidantlaw5.OpsTell': WHATEVER THE INPUT: true; the input reads as it did. -/
def opsTellSpec : ChangeSpec := { name := "opsTell", fn := fun _ => fun
  | [d1, d2] => { results := [.lit (.bool true)], args := [d1, d2] }
  | _ => none }
def opsTellRow : OpenClaim := { program := "ytampbnkbmaagnaadoor", sum := "7d21c1de53686a0048194739452a61638580b7c1b24fa354501805d82cd27a76", func := "confidant/confidantlaw5.OpsTell", spec := "opsTell", unfollowed := true, recurses := true, named := ["confidant/ops.names"], apart := false, laid := [("confidant/ops.names", laid_confidant_ops_names)] }
def OpsTellSaid : Prop := opsTellRow.holds Tryd.pinned (OpenSpec.ofChange opsTellSpec)

/-- ITS FALSE NEIGHBOUR: 'it returns false'. Refute it at one input. -/
def opsTellWrong : ChangeSpec := { name := "opsTell", fn := fun _ => fun
  | [d1, d2] => { results := [.lit (.bool false)], args := [d1, d2] }
  | _ => none }
def OpsTellWrongFalsely : Prop := opsTellRow.holds Tryd.pinned (OpenSpec.ofChange opsTellWrong)

/-- 'confidantlaw5.OpsAll': WHATEVER THE INPUT: true; the input reads as it did. -/
def opsAllSpec : ChangeSpec := { name := "opsAll", fn := fun _ => fun
  | [d1, d2] => { results := [.lit (.bool true)], args := [d1, d2] }
  | _ => none }
def opsAllRow : OpenClaim := { program := "ytampbnkbmaagnaadoor", sum := "7d21c1de53686a0048194739452a61638580b7c1b24fa354501805d82cd27a76", func := "confidant/confidantlaw5.OpsAll", spec := "opsAll", unfollowed := true, recurses := true, named := ["confidant/ops.names"], apart := false, laid := [("confidant/ops.names", laid_confidant_ops_names)] }
def OpsAllSaid : Prop := opsAllRow.holds Tryd.pinned (OpenSpec.ofChange opsAllSpec)

/-- ITS FALSE NEIGHBOUR: 'it returns false'. Refute it at one input. -/
def opsAllWrong : ChangeSpec := { name := "opsAll", fn := fun _ => fun
  | [d1, d2] => { results := [.lit (.bool false)], args := [d1, d2] }
  | _ => none }
def OpsAllWrongFalsely : Prop := opsAllRow.holds Tryd.pinned (OpenSpec.ofChange opsAllWrong)

/-- 'confidantlaw5.OpsNames': WHATEVER THE INPUT: true; the input reads as it did. -/
def opsNamesSpec : ChangeSpec := { name := "opsNames", fn := fun _ => fun
  | [d1, d2, d3] => { results := [.lit (.bool true)], args := [d1, d2, d3] }
  | _ => none }
def opsNamesRow : OpenClaim := { program := "ytampbnkbmaagnaadoor", sum := "7d21c1de53686a0048194739452a61638580b7c1b24fa354501805d82cd27a76", func := "confidant/confidantlaw5.OpsNames", spec := "opsNames", unfollowed := true, recurses := true, named := ["confidant/ops.names"], apart := false, laid := [("confidant/ops.names", laid_confidant_ops_names)] }
def OpsNamesSaid : Prop := opsNamesRow.holds Tryd.pinned (OpenSpec.ofChange opsNamesSpec)

/-- ITS FALSE NEIGHBOUR: 'it returns false'. Refute it at one input. -/
def opsNamesWrong : ChangeSpec := { name := "opsNames", fn := fun _ => fun
  | [d1, d2, d3] => { results := [.lit (.bool false)], args := [d1, d2, d3] }
  | _ => none }
def OpsNamesWrongFalsely : Prop := opsNamesRow.holds Tryd.pinned (OpenSpec.ofChange opsNamesWrong)

/- THE SECOND FORM. 'bulk': how many values and letters a reading holds, each counted each time it is reached (what is shared counts as often as it is met; a slice's spare places count too). A statement '..UptoSaid' is the law's where the arguments, and the package variables that the reading takes, are together of bulk at most 1048576: NARROWER than '..Said'. Prove '..Said' where nothing that the law and all that it calls make is longer than what came in: it says more and counts as full. Else prove '..UptoSaid'. A law counts once. -/
mutual
def uptoBulk {H : Type} : DataW H → Nat
  | .lit (.string bytes) => bytes.length + 1
  | .lit _ => 1
  | .nil => 1
  | .ptr d => uptoBulk d + 1
  | .slice elems spare => uptoBulkAll elems + uptoBulkAll spare + 1
  | .agg parts => uptoBulkAll parts + 1
  | .iface _ d => uptoBulk d + 1
  | .map entries => uptoBulkEntries entries + 1
  | .held _ => 1
def uptoBulkAll {H : Type} : List (DataW H) → Nat
  | [] => 0
  | d :: r => uptoBulk d + uptoBulkAll r
def uptoBulkEntries {H : Type} : List (Lit × DataW H) → Nat
  | [] => 0
  | x :: r => uptoBulkEntry x + uptoBulkEntries r
def uptoBulkEntry {H : Type} : Lit × DataW H → Nat
  | (.string bytes, d) => bytes.length + uptoBulk d + 1
  | (_, d) => uptoBulk d + 1
 end
def uptoSmall : (H : Type) → List (DataW H) → Bool := fun _ ds => decide (uptoBulkAll ds ≤ 1048576)
def OpenSpec.upto (s : _root_.Go.ChangeSpec) : _root_.Go.OpenSpec := { _root_.Go.OpenSpec.ofChange s with cond := some uptoSmall }

/-- 'confidantlaw5.OpsTell', WHERE WHAT IT READS IS OF BULK AT MOST 1048576: true; the input reads as it did. -/
def opsTellUptoRow : OpenClaim := { program := "ytampbnkbmaagnaadoor", sum := "7d21c1de53686a0048194739452a61638580b7c1b24fa354501805d82cd27a76", func := "confidant/confidantlaw5.OpsTell", spec := "opsTell", unfollowed := true, recurses := true, named := ["confidant/ops.names"], apart := false, laid := [("confidant/ops.names", laid_confidant_ops_names)], narrowed := true }
def OpsTellUptoSaid : Prop := opsTellUptoRow.holds Tryd.pinned (OpenSpec.upto opsTellSpec)

/-- 'confidantlaw5.OpsAll', WHERE WHAT IT READS IS OF BULK AT MOST 1048576: true; the input reads as it did. -/
def opsAllUptoRow : OpenClaim := { program := "ytampbnkbmaagnaadoor", sum := "7d21c1de53686a0048194739452a61638580b7c1b24fa354501805d82cd27a76", func := "confidant/confidantlaw5.OpsAll", spec := "opsAll", unfollowed := true, recurses := true, named := ["confidant/ops.names"], apart := false, laid := [("confidant/ops.names", laid_confidant_ops_names)], narrowed := true }
def OpsAllUptoSaid : Prop := opsAllUptoRow.holds Tryd.pinned (OpenSpec.upto opsAllSpec)

/-- 'confidantlaw5.OpsNames', WHERE WHAT IT READS IS OF BULK AT MOST 1048576: true; the input reads as it did. -/
def opsNamesUptoRow : OpenClaim := { program := "ytampbnkbmaagnaadoor", sum := "7d21c1de53686a0048194739452a61638580b7c1b24fa354501805d82cd27a76", func := "confidant/confidantlaw5.OpsNames", spec := "opsNames", unfollowed := true, recurses := true, named := ["confidant/ops.names"], apart := false, laid := [("confidant/ops.names", laid_confidant_ops_names)], narrowed := true }
def OpsNamesUptoSaid : Prop := opsNamesUptoRow.holds Tryd.pinned (OpenSpec.upto opsNamesSpec)

end Rows
end Go.Proofs.YtampbnkbmaagnaaDoor
