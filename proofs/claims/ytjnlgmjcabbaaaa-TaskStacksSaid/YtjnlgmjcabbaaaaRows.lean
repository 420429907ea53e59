/-
  No cell of these rows narrows 'for every input' (looked for: loops, veiled, ifaces, maps, wideKeys, modest, calm, conditions, laid).
  DERIVED. THE GIVEN ROWS OF THIS SEAT. 12 by the template 'for every input the law returns true; each argument reads behind the call as it read before'; 0 by the template 'total and deterministic' (their statements: YtjnlgmjcabbaaaaTotals.lean).
  GIVEN WITH THE SEED: the statements are not yours to turn. If you find one false, say at which input.
  Laid BY PROGRAM, IN A SANDBOX (cutbox-rows.mjs): the forced cells as the released guide's own fill.sh prints them over the translation 3026bc55a8c636b1… (all of the seat's roots in one cut). By AI agents, Wed Nov 11 2026. No macro, syntax, notation, axiom, sorry.
-/
import Derived.Test.YtjnlgmjcabbaaaaChecked
import GoSem.Claim
import GoSem.ClaimJoined
import GoSem.ClaimMapViews
import Derived.JoinedTies
import Derived.KernelRfl
namespace Go.Proofs.Ytjnlgmjcabbaaaa
/- THE CELL 'sum', in the pinned program and in every row, IS THE sha256 OF THE DUMP (.gsa) THAT YtjnlgmjcabbaaaaProg.lean LOADS. Nothing in Lean hashes anything: it is a label: what it is worth is what the hold of that sum in a sandbox is worth. -/
noncomputable def Try.pinned : Pinned := { name := "ytjnlgmjcabbaaaa", sum := "3026bc55a8c636b129ced8ebba9b1aecff71f7f7858e6959cde15384bf342077", checked := Try.checked }
namespace Rows
def none {H : Type} : Left H := { results := [], args := [] }

/-- 'confidantlaw8.VerifyTells': WHATEVER THE INPUT: true; the input reads as it did. -/
def verifyTellsSpec : ChangeSpec := { name := "verifyTells", fn := fun _ => fun
  | [d1, d2, d3, d4, d5, d6, d7] => { results := [.lit (.bool true)], args := [d1, d2, d3, d4, d5, d6, d7] }
  | _ => none }
def verifyTellsRow : OpenClaim := { program := "ytjnlgmjcabbaaaa", sum := "3026bc55a8c636b129ced8ebba9b1aecff71f7f7858e6959cde15384bf342077", func := "confidant/confidantlaw8.VerifyTells", spec := "verifyTells", unfollowed := true, recurses := true, apart := false }
def VerifyTellsSaid : Prop := verifyTellsRow.holds Try.pinned (OpenSpec.ofChange verifyTellsSpec)

/-- ITS FALSE NEIGHBOUR: 'it returns false'. Refute it at one input. -/
def verifyTellsWrong : ChangeSpec := { name := "verifyTells", fn := fun _ => fun
  | [d1, d2, d3, d4, d5, d6, d7] => { results := [.lit (.bool false)], args := [d1, d2, d3, d4, d5, d6, d7] }
  | _ => none }
def VerifyTellsWrongFalsely : Prop := verifyTellsRow.holds Try.pinned (OpenSpec.ofChange verifyTellsWrong)

/-- 'confidantlaw8.VerifyStacks': WHATEVER THE INPUT: true; the input reads as it did. -/
def verifyStacksSpec : ChangeSpec := { name := "verifyStacks", fn := fun _ => fun
  | [d1, d2] => { results := [.lit (.bool true)], args := [d1, d2] }
  | _ => none }
def verifyStacksRow : OpenClaim := { program := "ytjnlgmjcabbaaaa", sum := "3026bc55a8c636b129ced8ebba9b1aecff71f7f7858e6959cde15384bf342077", func := "confidant/confidantlaw8.VerifyStacks", spec := "verifyStacks", unfollowed := true, recurses := true, apart := false }
def VerifyStacksSaid : Prop := verifyStacksRow.holds Try.pinned (OpenSpec.ofChange verifyStacksSpec)

/-- ITS FALSE NEIGHBOUR: 'it returns false'. Refute it at one input. -/
def verifyStacksWrong : ChangeSpec := { name := "verifyStacks", fn := fun _ => fun
  | [d1, d2] => { results := [.lit (.bool false)], args := [d1, d2] }
  | _ => none }
def VerifyStacksWrongFalsely : Prop := verifyStacksRow.holds Try.pinned (OpenSpec.ofChange verifyStacksWrong)

/-- 'confidantlaw8.VerifyJumps': WHATEVER THE INPUT: true; the input reads as it did. -/
def verifyJumpsSpec : ChangeSpec := { name := "verifyJumps", fn := fun _ => fun
  | [d1, d2, d3] => { results := [.lit (.bool true)], args := [d1, d2, d3] }
  | _ => none }
def verifyJumpsRow : OpenClaim := { program := "ytjnlgmjcabbaaaa", sum := "3026bc55a8c636b129ced8ebba9b1aecff71f7f7858e6959cde15384bf342077", func := "confidant/confidantlaw8.VerifyJumps", spec := "verifyJumps", unfollowed := true, recurses := true, apart := false }
def VerifyJumpsSaid : Prop := verifyJumpsRow.holds Try.pinned (OpenSpec.ofChange verifyJumpsSpec)

/-- ITS FALSE NEIGHBOUR: 'it returns false'. Refute it at one input. -/
def verifyJumpsWrong : ChangeSpec := { name := "verifyJumps", fn := fun _ => fun
  | [d1, d2, d3] => { results := [.lit (.bool false)], args := [d1, d2, d3] }
  | _ => none }
def VerifyJumpsWrongFalsely : Prop := verifyJumpsRow.holds Try.pinned (OpenSpec.ofChange verifyJumpsWrong)

/-- 'confidantlaw8.VerifyBounds': WHATEVER THE INPUT: true; the input reads as it did. -/
def verifyBoundsSpec : ChangeSpec := { name := "verifyBounds", fn := fun _ => fun
  | [d1, d2, d3, d4, d5] => { results := [.lit (.bool true)], args := [d1, d2, d3, d4, d5] }
  | _ => none }
def verifyBoundsRow : OpenClaim := { program := "ytjnlgmjcabbaaaa", sum := "3026bc55a8c636b129ced8ebba9b1aecff71f7f7858e6959cde15384bf342077", func := "confidant/confidantlaw8.VerifyBounds", spec := "verifyBounds", unfollowed := true, recurses := true, apart := false }
def VerifyBoundsSaid : Prop := verifyBoundsRow.holds Try.pinned (OpenSpec.ofChange verifyBoundsSpec)

/-- ITS FALSE NEIGHBOUR: 'it returns false'. Refute it at one input. -/
def verifyBoundsWrong : ChangeSpec := { name := "verifyBounds", fn := fun _ => fun
  | [d1, d2, d3, d4, d5] => { results := [.lit (.bool false)], args := [d1, d2, d3, d4, d5] }
  | _ => none }
def VerifyBoundsWrongFalsely : Prop := verifyBoundsRow.holds Try.pinned (OpenSpec.ofChange verifyBoundsWrong)

/-- 'confidantlaw8.VerifyEnds': WHATEVER THE INPUT: true; the input reads as it did. -/
def verifyEndsSpec : ChangeSpec := { name := "verifyEnds", fn := fun _ => fun
  | [d1, d2, d3] => { results := [.lit (.bool true)], args := [d1, d2, d3] }
  | _ => none }
def verifyEndsRow : OpenClaim := { program := "ytjnlgmjcabbaaaa", sum := "3026bc55a8c636b129ced8ebba9b1aecff71f7f7858e6959cde15384bf342077", func := "confidant/confidantlaw8.VerifyEnds", spec := "verifyEnds", unfollowed := true, recurses := true, apart := false }
def VerifyEndsSaid : Prop := verifyEndsRow.holds Try.pinned (OpenSpec.ofChange verifyEndsSpec)

/-- ITS FALSE NEIGHBOUR: 'it returns false'. Refute it at one input. -/
def verifyEndsWrong : ChangeSpec := { name := "verifyEnds", fn := fun _ => fun
  | [d1, d2, d3] => { results := [.lit (.bool false)], args := [d1, d2, d3] }
  | _ => none }
def VerifyEndsWrongFalsely : Prop := verifyEndsRow.holds Try.pinned (OpenSpec.ofChange verifyEndsWrong)

/-- 'confidantlaw9.WordTells': WHATEVER THE INPUT: true; the input reads as it did. -/
def wordTellsSpec : ChangeSpec := { name := "wordTells", fn := fun _ => fun
  | [d1, d2, d3, d4] => { results := [.lit (.bool true)], args := [d1, d2, d3, d4] }
  | _ => none }
def wordTellsRow : OpenClaim := { program := "ytjnlgmjcabbaaaa", sum := "3026bc55a8c636b129ced8ebba9b1aecff71f7f7858e6959cde15384bf342077", func := "confidant/confidantlaw9.WordTells", spec := "wordTells", unfollowed := true, recurses := true, apart := false }
def WordTellsSaid : Prop := wordTellsRow.holds Try.pinned (OpenSpec.ofChange wordTellsSpec)

/-- ITS FALSE NEIGHBOUR: 'it returns false'. Refute it at one input. -/
def wordTellsWrong : ChangeSpec := { name := "wordTells", fn := fun _ => fun
  | [d1, d2, d3, d4] => { results := [.lit (.bool false)], args := [d1, d2, d3, d4] }
  | _ => none }
def WordTellsWrongFalsely : Prop := wordTellsRow.holds Try.pinned (OpenSpec.ofChange wordTellsWrong)

/-- 'confidantlaw9.WordDivides': WHATEVER THE INPUT: true; the input reads as it did. -/
def wordDividesSpec : ChangeSpec := { name := "wordDivides", fn := fun _ => fun
  | [d1, d2] => { results := [.lit (.bool true)], args := [d1, d2] }
  | _ => none }
def wordDividesRow : OpenClaim := { program := "ytjnlgmjcabbaaaa", sum := "3026bc55a8c636b129ced8ebba9b1aecff71f7f7858e6959cde15384bf342077", func := "confidant/confidantlaw9.WordDivides", spec := "wordDivides", unfollowed := true, recurses := true, apart := false }
def WordDividesSaid : Prop := wordDividesRow.holds Try.pinned (OpenSpec.ofChange wordDividesSpec)

/-- ITS FALSE NEIGHBOUR: 'it returns false'. Refute it at one input. -/
def wordDividesWrong : ChangeSpec := { name := "wordDivides", fn := fun _ => fun
  | [d1, d2] => { results := [.lit (.bool false)], args := [d1, d2] }
  | _ => none }
def WordDividesWrongFalsely : Prop := wordDividesRow.holds Try.pinned (OpenSpec.ofChange wordDividesWrong)

/-- 'confidantlaw9.WordOrders': WHATEVER THE INPUT: true; the input reads as it did. -/
def wordOrdersSpec : ChangeSpec := { name := "wordOrders", fn := fun _ => fun
  | [d1, d2, d3] => { results := [.lit (.bool true)], args := [d1, d2, d3] }
  | _ => none }
def wordOrdersRow : OpenClaim := { program := "ytjnlgmjcabbaaaa", sum := "3026bc55a8c636b129ced8ebba9b1aecff71f7f7858e6959cde15384bf342077", func := "confidant/confidantlaw9.WordOrders", spec := "wordOrders", unfollowed := true, recurses := true, apart := false }
def WordOrdersSaid : Prop := wordOrdersRow.holds Try.pinned (OpenSpec.ofChange wordOrdersSpec)

/-- ITS FALSE NEIGHBOUR: 'it returns false'. Refute it at one input. -/
def wordOrdersWrong : ChangeSpec := { name := "wordOrders", fn := fun _ => fun
  | [d1, d2, d3] => { results := [.lit (.bool false)], args := [d1, d2, d3] }
  | _ => none }
def WordOrdersWrongFalsely : Prop := wordOrdersRow.holds Try.pinned (OpenSpec.ofChange wordOrdersWrong)

/-- 'confidantlaw10.TaskTells': WHATEVER THE INPUT: true; the input reads as it did. -/
def taskTellsSpec : ChangeSpec := { name := "taskTells", fn := fun _ => fun
  | [d1, d2, d3, d4, d5, d6, d7, d8, d9, d10] => { results := [.lit (.bool true)], args := [d1, d2, d3, d4, d5, d6, d7, d8, d9, d10] }
  | _ => none }
def taskTellsRow : OpenClaim := { program := "ytjnlgmjcabbaaaa", sum := "3026bc55a8c636b129ced8ebba9b1aecff71f7f7858e6959cde15384bf342077", func := "confidant/confidantlaw10.TaskTells", spec := "taskTells", unfollowed := true, recurses := true, apart := false }
def TaskTellsSaid : Prop := taskTellsRow.holds Try.pinned (OpenSpec.ofChange taskTellsSpec)

/-- ITS FALSE NEIGHBOUR: 'it returns false'. Refute it at one input. -/
def taskTellsWrong : ChangeSpec := { name := "taskTells", fn := fun _ => fun
  | [d1, d2, d3, d4, d5, d6, d7, d8, d9, d10] => { results := [.lit (.bool false)], args := [d1, d2, d3, d4, d5, d6, d7, d8, d9, d10] }
  | _ => none }
def TaskTellsWrongFalsely : Prop := taskTellsRow.holds Try.pinned (OpenSpec.ofChange taskTellsWrong)

/-- 'confidantlaw10.TaskRuns': WHATEVER THE INPUT: true; the input reads as it did. -/
def taskRunsSpec : ChangeSpec := { name := "taskRuns", fn := fun _ => fun
  | [d1, d2, d3] => { results := [.lit (.bool true)], args := [d1, d2, d3] }
  | _ => none }
def taskRunsRow : OpenClaim := { program := "ytjnlgmjcabbaaaa", sum := "3026bc55a8c636b129ced8ebba9b1aecff71f7f7858e6959cde15384bf342077", func := "confidant/confidantlaw10.TaskRuns", spec := "taskRuns", unfollowed := true, recurses := true, apart := false }
def TaskRunsSaid : Prop := taskRunsRow.holds Try.pinned (OpenSpec.ofChange taskRunsSpec)

/-- ITS FALSE NEIGHBOUR: 'it returns false'. Refute it at one input. -/
def taskRunsWrong : ChangeSpec := { name := "taskRuns", fn := fun _ => fun
  | [d1, d2, d3] => { results := [.lit (.bool false)], args := [d1, d2, d3] }
  | _ => none }
def TaskRunsWrongFalsely : Prop := taskRunsRow.holds Try.pinned (OpenSpec.ofChange taskRunsWrong)

/-- 'confidantlaw10.TaskStacks': WHATEVER THE INPUT: true; the input reads as it did. -/
def taskStacksSpec : ChangeSpec := { name := "taskStacks", fn := fun _ => fun
  | [d1, d2, d3, d4] => { results := [.lit (.bool true)], args := [d1, d2, d3, d4] }
  | _ => none }
def taskStacksRow : OpenClaim := { program := "ytjnlgmjcabbaaaa", sum := "3026bc55a8c636b129ced8ebba9b1aecff71f7f7858e6959cde15384bf342077", func := "confidant/confidantlaw10.TaskStacks", spec := "taskStacks", unfollowed := true, recurses := true, apart := false }
def TaskStacksSaid : Prop := taskStacksRow.holds Try.pinned (OpenSpec.ofChange taskStacksSpec)

/-- ITS FALSE NEIGHBOUR: 'it returns false'. Refute it at one input. -/
def taskStacksWrong : ChangeSpec := { name := "taskStacks", fn := fun _ => fun
  | [d1, d2, d3, d4] => { results := [.lit (.bool false)], args := [d1, d2, d3, d4] }
  | _ => none }
def TaskStacksWrongFalsely : Prop := taskStacksRow.holds Try.pinned (OpenSpec.ofChange taskStacksWrong)

/-- 'confidantlaw10.TaskJumps': WHATEVER THE INPUT: true; the input reads as it did. -/
def taskJumpsSpec : ChangeSpec := { name := "taskJumps", fn := fun _ => fun
  | [d1, d2, d3, d4] => { results := [.lit (.bool true)], args := [d1, d2, d3, d4] }
  | _ => none }
def taskJumpsRow : OpenClaim := { program := "ytjnlgmjcabbaaaa", sum := "3026bc55a8c636b129ced8ebba9b1aecff71f7f7858e6959cde15384bf342077", func := "confidant/confidantlaw10.TaskJumps", spec := "taskJumps", unfollowed := true, recurses := true, apart := false }
def TaskJumpsSaid : Prop := taskJumpsRow.holds Try.pinned (OpenSpec.ofChange taskJumpsSpec)

/-- ITS FALSE NEIGHBOUR: 'it returns false'. Refute it at one input. -/
def taskJumpsWrong : ChangeSpec := { name := "taskJumps", fn := fun _ => fun
  | [d1, d2, d3, d4] => { results := [.lit (.bool false)], args := [d1, d2, d3, d4] }
  | _ => none }
def TaskJumpsWrongFalsely : Prop := taskJumpsRow.holds Try.pinned (OpenSpec.ofChange taskJumpsWrong)

/- THE SECOND FORM. 'bulk': how many values and letters a reading holds, each counted each time it is reached (what is shared counts as often as it is met; a slice's spare places count too). A statement '..UptoSaid' is the law's where the arguments, and the package variables that the reading takes, are together of bulk at most 1048576: NARROWER than '..Said'. Prove '..Said' where nothing that the law and all that it calls make is longer than what came in: it says more and counts as full. Else prove '..UptoSaid'. A law counts once. -/
mutual
def uptoBulk {H : Type} : DataW H → Nat
  | .lit (.string bytes) => bytes.length + 1
  | .lit _ => 1
  | .nil => 1
  | .ptr d => uptoBulk d + 1
  | .slice elems spare => uptoBulkAll elems + uptoBulkAll spare + 1
  | .agg parts => uptoBulkAll parts + 1
  | .iface _ d => uptoBulk d + 1
  | .map entries => uptoBulkEntries entries + 1
  | .held _ => 1
def uptoBulkAll {H : Type} : List (DataW H) → Nat
  | [] => 0
  | d :: r => uptoBulk d + uptoBulkAll r
def uptoBulkEntries {H : Type} : List (Lit × DataW H) → Nat
  | [] => 0
  | x :: r => uptoBulkEntry x + uptoBulkEntries r
def uptoBulkEntry {H : Type} : Lit × DataW H → Nat
  | (.string bytes, d) => bytes.length + uptoBulk d + 1
  | (_, d) => uptoBulk d + 1
 end
def uptoSmall : (H : Type) → List (DataW H) → Bool := fun _ ds => decide (uptoBulkAll ds ≤ 1048576)
def OpenSpec.upto (s : _root_.Go.ChangeSpec) : _root_.Go.OpenSpec := { _root_.Go.OpenSpec.ofChange s with cond := some uptoSmall }

/-- 'confidantlaw8.VerifyTells', WHERE WHAT IT READS IS OF BULK AT MOST 1048576: true; the input reads as it did. -/
def verifyTellsUptoRow : OpenClaim := { program := "ytjnlgmjcabbaaaa", sum := "3026bc55a8c636b129ced8ebba9b1aecff71f7f7858e6959cde15384bf342077", func := "confidant/confidantlaw8.VerifyTells", spec := "verifyTells", unfollowed := true, recurses := true, apart := false, narrowed := true }
def VerifyTellsUptoSaid : Prop := verifyTellsUptoRow.holds Try.pinned (OpenSpec.upto verifyTellsSpec)

/-- 'confidantlaw8.VerifyStacks', WHERE WHAT IT READS IS OF BULK AT MOST 1048576: true; the input reads as it did. -/
def verifyStacksUptoRow : OpenClaim := { program := "ytjnlgmjcabbaaaa", sum := "3026bc55a8c636b129ced8ebba9b1aecff71f7f7858e6959cde15384bf342077", func := "confidant/confidantlaw8.VerifyStacks", spec := "verifyStacks", unfollowed := true, recurses := true, apart := false, narrowed := true }
def VerifyStacksUptoSaid : Prop := verifyStacksUptoRow.holds Try.pinned (OpenSpec.upto verifyStacksSpec)

/-- 'confidantlaw8.VerifyJumps', WHERE WHAT IT READS IS OF BULK AT MOST 1048576: true; the input reads as it did. -/
def verifyJumpsUptoRow : OpenClaim := { program := "ytjnlgmjcabbaaaa", sum := "3026bc55a8c636b129ced8ebba9b1aecff71f7f7858e6959cde15384bf342077", func := "confidant/confidantlaw8.VerifyJumps", spec := "verifyJumps", unfollowed := true, recurses := true, apart := false, narrowed := true }
def VerifyJumpsUptoSaid : Prop := verifyJumpsUptoRow.holds Try.pinned (OpenSpec.upto verifyJumpsSpec)

/-- 'confidantlaw8.VerifyBounds', WHERE WHAT IT READS IS OF BULK AT MOST 1048576: true; the input reads as it did. -/
def verifyBoundsUptoRow : OpenClaim := { program := "ytjnlgmjcabbaaaa", sum := "3026bc55a8c636b129ced8ebba9b1aecff71f7f7858e6959cde15384bf342077", func := "confidant/confidantlaw8.VerifyBounds", spec := "verifyBounds", unfollowed := true, recurses := true, apart := false, narrowed := true }
def VerifyBoundsUptoSaid : Prop := verifyBoundsUptoRow.holds Try.pinned (OpenSpec.upto verifyBoundsSpec)

/-- 'confidantlaw8.VerifyEnds', WHERE WHAT IT READS IS OF BULK AT MOST 1048576: true; the input reads as it did. -/
def verifyEndsUptoRow : OpenClaim := { program := "ytjnlgmjcabbaaaa", sum := "3026bc55a8c636b129ced8ebba9b1aecff71f7f7858e6959cde15384bf342077", func := "confidant/confidantlaw8.VerifyEnds", spec := "verifyEnds", unfollowed := true, recurses := true, apart := false, narrowed := true }
def VerifyEndsUptoSaid : Prop := verifyEndsUptoRow.holds Try.pinned (OpenSpec.upto verifyEndsSpec)

/-- 'confidantlaw9.WordTells', WHERE WHAT IT READS IS OF BULK AT MOST 1048576: true; the input reads as it did. -/
def wordTellsUptoRow : OpenClaim := { program := "ytjnlgmjcabbaaaa", sum := "3026bc55a8c636b129ced8ebba9b1aecff71f7f7858e6959cde15384bf342077", func := "confidant/confidantlaw9.WordTells", spec := "wordTells", unfollowed := true, recurses := true, apart := false, narrowed := true }
def WordTellsUptoSaid : Prop := wordTellsUptoRow.holds Try.pinned (OpenSpec.upto wordTellsSpec)

/-- 'confidantlaw9.WordDivides', WHERE WHAT IT READS IS OF BULK AT MOST 1048576: true; the input reads as it did. -/
def wordDividesUptoRow : OpenClaim := { program := "ytjnlgmjcabbaaaa", sum := "3026bc55a8c636b129ced8ebba9b1aecff71f7f7858e6959cde15384bf342077", func := "confidant/confidantlaw9.WordDivides", spec := "wordDivides", unfollowed := true, recurses := true, apart := false, narrowed := true }
def WordDividesUptoSaid : Prop := wordDividesUptoRow.holds Try.pinned (OpenSpec.upto wordDividesSpec)

/-- 'confidantlaw9.WordOrders', WHERE WHAT IT READS IS OF BULK AT MOST 1048576: true; the input reads as it did. -/
def wordOrdersUptoRow : OpenClaim := { program := "ytjnlgmjcabbaaaa", sum := "3026bc55a8c636b129ced8ebba9b1aecff71f7f7858e6959cde15384bf342077", func := "confidant/confidantlaw9.WordOrders", spec := "wordOrders", unfollowed := true, recurses := true, apart := false, narrowed := true }
def WordOrdersUptoSaid : Prop := wordOrdersUptoRow.holds Try.pinned (OpenSpec.upto wordOrdersSpec)

/-- 'confidantlaw10.TaskTells', WHERE WHAT IT READS IS OF BULK AT MOST 1048576: true; the input reads as it did. -/
def taskTellsUptoRow : OpenClaim := { program := "ytjnlgmjcabbaaaa", sum := "3026bc55a8c636b129ced8ebba9b1aecff71f7f7858e6959cde15384bf342077", func := "confidant/confidantlaw10.TaskTells", spec := "taskTells", unfollowed := true, recurses := true, apart := false, narrowed := true }
def TaskTellsUptoSaid : Prop := taskTellsUptoRow.holds Try.pinned (OpenSpec.upto taskTellsSpec)

/-- 'confidantlaw10.TaskRuns', WHERE WHAT IT READS IS OF BULK AT MOST 1048576: true; the input reads as it did. -/
def taskRunsUptoRow : OpenClaim := { program := "ytjnlgmjcabbaaaa", sum := "3026bc55a8c636b129ced8ebba9b1aecff71f7f7858e6959cde15384bf342077", func := "confidant/confidantlaw10.TaskRuns", spec := "taskRuns", unfollowed := true, recurses := true, apart := false, narrowed := true }
def TaskRunsUptoSaid : Prop := taskRunsUptoRow.holds Try.pinned (OpenSpec.upto taskRunsSpec)

/-- 'confidantlaw10.TaskStacks', WHERE WHAT IT READS IS OF BULK AT MOST 1048576: true; the input reads as it did. -/
def taskStacksUptoRow : OpenClaim := { program := "ytjnlgmjcabbaaaa", sum := "3026bc55a8c636b129ced8ebba9b1aecff71f7f7858e6959cde15384bf342077", func := "confidant/confidantlaw10.TaskStacks", spec := "taskStacks", unfollowed := true, recurses := true, apart := false, narrowed := true }
def TaskStacksUptoSaid : Prop := taskStacksUptoRow.holds Try.pinned (OpenSpec.upto taskStacksSpec)

/-- 'confidantlaw10.TaskJumps', WHERE WHAT IT READS IS OF BULK AT MOST 1048576: true; the input reads as it did. -/
def taskJumpsUptoRow : OpenClaim := { program := "ytjnlgmjcabbaaaa", sum := "3026bc55a8c636b129ced8ebba9b1aecff71f7f7858e6959cde15384bf342077", func := "confidant/confidantlaw10.TaskJumps", spec := "taskJumps", unfollowed := true, recurses := true, apart := false, narrowed := true }
def TaskJumpsUptoSaid : Prop := taskJumpsUptoRow.holds Try.pinned (OpenSpec.upto taskJumpsSpec)

end Rows
end Go.Proofs.Ytjnlgmjcabbaaaa
