/-
  No cell of these rows narrows 'for every input' (looked for: loops, veiled, ifaces, maps, wideKeys, modest, calm, conditions, laid).
  DERIVED. THE GIVEN ROWS OF THIS SEAT. 12 by the template 'for every input the law returns true; each argument reads behind the call as it read before'; 0 by the template 'total and deterministic' (their statements: YtboelofkbhgmfaaTotals.lean).
  GIVEN WITH THE SEED: the statements are not yours to turn. If you find one false, say at which input.
  Laid BY PROGRAM, IN A SANDBOX (cutbox-rows.mjs): the forced cells as the released guide's own fill.sh prints them over the translation e57e73d0d67f070e… (all of the seat's roots in one cut). By AI agents, Wed Nov 11 2026. No macro, syntax, notation, axiom, sorry.
-/
import Derived.Test.YtboelofkbhgmfaaChecked
import GoSem.Claim
import GoSem.ClaimJoined
import GoSem.ClaimMapViews
import Derived.JoinedTies
import Derived.KernelRfl
namespace Go.Proofs.Ytboelofkbhgmfaa
/- THE CELL 'sum', in the pinned program and in every row, IS THE sha256 OF THE DUMP (.gsa) THAT YtboelofkbhgmfaaProg.lean LOADS. Nothing in Lean hashes anything: it is a label: what it is worth is what the hold of that sum in a sandbox is worth. -/
noncomputable def Try.pinned : Pinned := { name := "ytboelofkbhgmfaa", sum := "e57e73d0d67f070ebbbb282a144e4ab1f79558212770d45e075dbfa87f277e8d", checked := Try.checked }
namespace Rows
def none {H : Type} : Left H := { results := [], args := [] }

/-- 'confidantlaw12.ArenaPlays': WHATEVER THE INPUT: true; the input reads as it did. -/
def arenaPlaysSpec : ChangeSpec := { name := "arenaPlays", fn := fun _ => fun
  | [d1, d2] => { results := [.lit (.bool true)], args := [d1, d2] }
  | _ => none }
def arenaPlaysRow : OpenClaim := { program := "ytboelofkbhgmfaa", sum := "e57e73d0d67f070ebbbb282a144e4ab1f79558212770d45e075dbfa87f277e8d", func := "confidant/confidantlaw12.ArenaPlays", spec := "arenaPlays", apart := false }
def ArenaPlaysSaid : Prop := arenaPlaysRow.holds Try.pinned (OpenSpec.ofChange arenaPlaysSpec)

/-- ITS FALSE NEIGHBOUR: 'it returns false'. Refute it at one input. -/
def arenaPlaysWrong : ChangeSpec := { name := "arenaPlays", fn := fun _ => fun
  | [d1, d2] => { results := [.lit (.bool false)], args := [d1, d2] }
  | _ => none }
def ArenaPlaysWrongFalsely : Prop := arenaPlaysRow.holds Try.pinned (OpenSpec.ofChange arenaPlaysWrong)

/-- 'confidantlaw12.ArenaApart': WHATEVER THE INPUT: true; the input reads as it did. -/
def arenaApartSpec : ChangeSpec := { name := "arenaApart", fn := fun _ => fun
  | [d1, d2, d3, d4] => { results := [.lit (.bool true)], args := [d1, d2, d3, d4] }
  | _ => none }
def arenaApartRow : OpenClaim := { program := "ytboelofkbhgmfaa", sum := "e57e73d0d67f070ebbbb282a144e4ab1f79558212770d45e075dbfa87f277e8d", func := "confidant/confidantlaw12.ArenaApart", spec := "arenaApart", apart := false }
def ArenaApartSaid : Prop := arenaApartRow.holds Try.pinned (OpenSpec.ofChange arenaApartSpec)

/-- ITS FALSE NEIGHBOUR: 'it returns false'. Refute it at one input. -/
def arenaApartWrong : ChangeSpec := { name := "arenaApart", fn := fun _ => fun
  | [d1, d2, d3, d4] => { results := [.lit (.bool false)], args := [d1, d2, d3, d4] }
  | _ => none }
def ArenaApartWrongFalsely : Prop := arenaApartRow.holds Try.pinned (OpenSpec.ofChange arenaApartWrong)

/-- 'confidantlaw12.ArenaHolds': WHATEVER THE INPUT: true; the input reads as it did. -/
def arenaHoldsSpec : ChangeSpec := { name := "arenaHolds", fn := fun _ => fun
  | [d1, d2] => { results := [.lit (.bool true)], args := [d1, d2] }
  | _ => none }
def arenaHoldsRow : OpenClaim := { program := "ytboelofkbhgmfaa", sum := "e57e73d0d67f070ebbbb282a144e4ab1f79558212770d45e075dbfa87f277e8d", func := "confidant/confidantlaw12.ArenaHolds", spec := "arenaHolds", apart := false }
def ArenaHoldsSaid : Prop := arenaHoldsRow.holds Try.pinned (OpenSpec.ofChange arenaHoldsSpec)

/-- ITS FALSE NEIGHBOUR: 'it returns false'. Refute it at one input. -/
def arenaHoldsWrong : ChangeSpec := { name := "arenaHolds", fn := fun _ => fun
  | [d1, d2] => { results := [.lit (.bool false)], args := [d1, d2] }
  | _ => none }
def ArenaHoldsWrongFalsely : Prop := arenaHoldsRow.holds Try.pinned (OpenSpec.ofChange arenaHoldsWrong)

/-- 'confidantlaw12.ArenaNumbers': WHATEVER THE INPUT: true; the input reads as it did. -/
def arenaNumbersSpec : ChangeSpec := { name := "arenaNumbers", fn := fun _ => fun
  | [d] => { results := [.lit (.bool true)], args := [d] }
  | _ => none }
def arenaNumbersRow : OpenClaim := { program := "ytboelofkbhgmfaa", sum := "e57e73d0d67f070ebbbb282a144e4ab1f79558212770d45e075dbfa87f277e8d", func := "confidant/confidantlaw12.ArenaNumbers", spec := "arenaNumbers", apart := false }
def ArenaNumbersSaid : Prop := arenaNumbersRow.holds Try.pinned (OpenSpec.ofChange arenaNumbersSpec)

/-- ITS FALSE NEIGHBOUR: 'it returns false'. Refute it at one input. -/
def arenaNumbersWrong : ChangeSpec := { name := "arenaNumbers", fn := fun _ => fun
  | [d] => { results := [.lit (.bool false)], args := [d] }
  | _ => none }
def ArenaNumbersWrongFalsely : Prop := arenaNumbersRow.holds Try.pinned (OpenSpec.ofChange arenaNumbersWrong)

/-- 'confidantlaw13.FuturePlays': WHATEVER THE INPUT: true; the input reads as it did. -/
def futurePlaysSpec : ChangeSpec := { name := "futurePlays", fn := fun _ => fun
  | [d1, d2] => { results := [.lit (.bool true)], args := [d1, d2] }
  | _ => none }
def futurePlaysRow : OpenClaim := { program := "ytboelofkbhgmfaa", sum := "e57e73d0d67f070ebbbb282a144e4ab1f79558212770d45e075dbfa87f277e8d", func := "confidant/confidantlaw13.FuturePlays", spec := "futurePlays", unfollowed := true, recurses := true, apart := false }
def FuturePlaysSaid : Prop := futurePlaysRow.holds Try.pinned (OpenSpec.ofChange futurePlaysSpec)

/-- ITS FALSE NEIGHBOUR: 'it returns false'. Refute it at one input. -/
def futurePlaysWrong : ChangeSpec := { name := "futurePlays", fn := fun _ => fun
  | [d1, d2] => { results := [.lit (.bool false)], args := [d1, d2] }
  | _ => none }
def FuturePlaysWrongFalsely : Prop := futurePlaysRow.holds Try.pinned (OpenSpec.ofChange futurePlaysWrong)

/-- 'confidantlaw13.FutureOnce': WHATEVER THE INPUT: true; the input reads as it did. -/
def futureOnceSpec : ChangeSpec := { name := "futureOnce", fn := fun _ => fun
  | [d1, d2] => { results := [.lit (.bool true)], args := [d1, d2] }
  | _ => none }
def futureOnceRow : OpenClaim := { program := "ytboelofkbhgmfaa", sum := "e57e73d0d67f070ebbbb282a144e4ab1f79558212770d45e075dbfa87f277e8d", func := "confidant/confidantlaw13.FutureOnce", spec := "futureOnce", unfollowed := true, recurses := true, apart := false }
def FutureOnceSaid : Prop := futureOnceRow.holds Try.pinned (OpenSpec.ofChange futureOnceSpec)

/-- ITS FALSE NEIGHBOUR: 'it returns false'. Refute it at one input. -/
def futureOnceWrong : ChangeSpec := { name := "futureOnce", fn := fun _ => fun
  | [d1, d2] => { results := [.lit (.bool false)], args := [d1, d2] }
  | _ => none }
def FutureOnceWrongFalsely : Prop := futureOnceRow.holds Try.pinned (OpenSpec.ofChange futureOnceWrong)

/-- 'confidantlaw13.FutureQuotas': WHATEVER THE INPUT: true; the input reads as it did. -/
def futureQuotasSpec : ChangeSpec := { name := "futureQuotas", fn := fun _ => fun
  | [d1, d2] => { results := [.lit (.bool true)], args := [d1, d2] }
  | _ => none }
def futureQuotasRow : OpenClaim := { program := "ytboelofkbhgmfaa", sum := "e57e73d0d67f070ebbbb282a144e4ab1f79558212770d45e075dbfa87f277e8d", func := "confidant/confidantlaw13.FutureQuotas", spec := "futureQuotas", unfollowed := true, recurses := true, apart := false }
def FutureQuotasSaid : Prop := futureQuotasRow.holds Try.pinned (OpenSpec.ofChange futureQuotasSpec)

/-- ITS FALSE NEIGHBOUR: 'it returns false'. Refute it at one input. -/
def futureQuotasWrong : ChangeSpec := { name := "futureQuotas", fn := fun _ => fun
  | [d1, d2] => { results := [.lit (.bool false)], args := [d1, d2] }
  | _ => none }
def FutureQuotasWrongFalsely : Prop := futureQuotasRow.holds Try.pinned (OpenSpec.ofChange futureQuotasWrong)

/-- 'confidantlaw13.FutureApart': WHATEVER THE INPUT: true; the input reads as it did. -/
def futureApartSpec : ChangeSpec := { name := "futureApart", fn := fun _ => fun
  | [d1, d2] => { results := [.lit (.bool true)], args := [d1, d2] }
  | _ => none }
def futureApartRow : OpenClaim := { program := "ytboelofkbhgmfaa", sum := "e57e73d0d67f070ebbbb282a144e4ab1f79558212770d45e075dbfa87f277e8d", func := "confidant/confidantlaw13.FutureApart", spec := "futureApart", unfollowed := true, recurses := true, apart := false }
def FutureApartSaid : Prop := futureApartRow.holds Try.pinned (OpenSpec.ofChange futureApartSpec)

/-- ITS FALSE NEIGHBOUR: 'it returns false'. Refute it at one input. -/
def futureApartWrong : ChangeSpec := { name := "futureApart", fn := fun _ => fun
  | [d1, d2] => { results := [.lit (.bool false)], args := [d1, d2] }
  | _ => none }
def FutureApartWrongFalsely : Prop := futureApartRow.holds Try.pinned (OpenSpec.ofChange futureApartWrong)

/-- 'confidantlaw20.ParkPlays': WHATEVER THE INPUT: true; the input reads as it did. -/
def parkPlaysSpec : ChangeSpec := { name := "parkPlays", fn := fun _ => fun
  | [d1, d2] => { results := [.lit (.bool true)], args := [d1, d2] }
  | _ => none }
def parkPlaysRow : OpenClaim := { program := "ytboelofkbhgmfaa", sum := "e57e73d0d67f070ebbbb282a144e4ab1f79558212770d45e075dbfa87f277e8d", func := "confidant/confidantlaw20.ParkPlays", spec := "parkPlays", unfollowed := true, recurses := true, apart := false }
def ParkPlaysSaid : Prop := parkPlaysRow.holds Try.pinned (OpenSpec.ofChange parkPlaysSpec)

/-- ITS FALSE NEIGHBOUR: 'it returns false'. Refute it at one input. -/
def parkPlaysWrong : ChangeSpec := { name := "parkPlays", fn := fun _ => fun
  | [d1, d2] => { results := [.lit (.bool false)], args := [d1, d2] }
  | _ => none }
def ParkPlaysWrongFalsely : Prop := parkPlaysRow.holds Try.pinned (OpenSpec.ofChange parkPlaysWrong)

/-- 'confidantlaw20.ParkNobody': WHATEVER THE INPUT: true; the input reads as it did. -/
def parkNobodySpec : ChangeSpec := { name := "parkNobody", fn := fun _ => fun
  | [d1, d2, d3] => { results := [.lit (.bool true)], args := [d1, d2, d3] }
  | _ => none }
def parkNobodyRow : OpenClaim := { program := "ytboelofkbhgmfaa", sum := "e57e73d0d67f070ebbbb282a144e4ab1f79558212770d45e075dbfa87f277e8d", func := "confidant/confidantlaw20.ParkNobody", spec := "parkNobody", unfollowed := true, recurses := true, apart := false }
def ParkNobodySaid : Prop := parkNobodyRow.holds Try.pinned (OpenSpec.ofChange parkNobodySpec)

/-- ITS FALSE NEIGHBOUR: 'it returns false'. Refute it at one input. -/
def parkNobodyWrong : ChangeSpec := { name := "parkNobody", fn := fun _ => fun
  | [d1, d2, d3] => { results := [.lit (.bool false)], args := [d1, d2, d3] }
  | _ => none }
def ParkNobodyWrongFalsely : Prop := parkNobodyRow.holds Try.pinned (OpenSpec.ofChange parkNobodyWrong)

/-- 'confidantlaw20.ParkStays': WHATEVER THE INPUT: true; the input reads as it did. -/
def parkStaysSpec : ChangeSpec := { name := "parkStays", fn := fun _ => fun
  | [d1, d2, d3] => { results := [.lit (.bool true)], args := [d1, d2, d3] }
  | _ => none }
def parkStaysRow : OpenClaim := { program := "ytboelofkbhgmfaa", sum := "e57e73d0d67f070ebbbb282a144e4ab1f79558212770d45e075dbfa87f277e8d", func := "confidant/confidantlaw20.ParkStays", spec := "parkStays", unfollowed := true, recurses := true, apart := false }
def ParkStaysSaid : Prop := parkStaysRow.holds Try.pinned (OpenSpec.ofChange parkStaysSpec)

/-- ITS FALSE NEIGHBOUR: 'it returns false'. Refute it at one input. -/
def parkStaysWrong : ChangeSpec := { name := "parkStays", fn := fun _ => fun
  | [d1, d2, d3] => { results := [.lit (.bool false)], args := [d1, d2, d3] }
  | _ => none }
def ParkStaysWrongFalsely : Prop := parkStaysRow.holds Try.pinned (OpenSpec.ofChange parkStaysWrong)

/-- 'confidantlaw20.ParkFuel': WHATEVER THE INPUT: true; the input reads as it did. -/
def parkFuelSpec : ChangeSpec := { name := "parkFuel", fn := fun _ => fun
  | [d1, d2, d3, d4] => { results := [.lit (.bool true)], args := [d1, d2, d3, d4] }
  | _ => none }
def parkFuelRow : OpenClaim := { program := "ytboelofkbhgmfaa", sum := "e57e73d0d67f070ebbbb282a144e4ab1f79558212770d45e075dbfa87f277e8d", func := "confidant/confidantlaw20.ParkFuel", spec := "parkFuel", unfollowed := true, recurses := true, apart := false }
def ParkFuelSaid : Prop := parkFuelRow.holds Try.pinned (OpenSpec.ofChange parkFuelSpec)

/-- ITS FALSE NEIGHBOUR: 'it returns false'. Refute it at one input. -/
def parkFuelWrong : ChangeSpec := { name := "parkFuel", fn := fun _ => fun
  | [d1, d2, d3, d4] => { results := [.lit (.bool false)], args := [d1, d2, d3, d4] }
  | _ => none }
def ParkFuelWrongFalsely : Prop := parkFuelRow.holds Try.pinned (OpenSpec.ofChange parkFuelWrong)

/- THE SECOND FORM. 'bulk': how many values and letters a reading holds, each counted each time it is reached (what is shared counts as often as it is met; a slice's spare places count too). A statement '..UptoSaid' is the law's where the arguments, and the package variables that the reading takes, are together of bulk at most 1048576: NARROWER than '..Said'. Prove '..Said' where nothing that the law and all that it calls make is longer than what came in: it says more and counts as full. Else prove '..UptoSaid'. A law counts once. -/
mutual
def uptoBulk {H : Type} : DataW H → Nat
  | .lit (.string bytes) => bytes.length + 1
  | .lit _ => 1
  | .nil => 1
  | .ptr d => uptoBulk d + 1
  | .slice elems spare => uptoBulkAll elems + uptoBulkAll spare + 1
  | .agg parts => uptoBulkAll parts + 1
  | .iface _ d => uptoBulk d + 1
  | .map entries => uptoBulkEntries entries + 1
  | .held _ => 1
def uptoBulkAll {H : Type} : List (DataW H) → Nat
  | [] => 0
  | d :: r => uptoBulk d + uptoBulkAll r
def uptoBulkEntries {H : Type} : List (Lit × DataW H) → Nat
  | [] => 0
  | x :: r => uptoBulkEntry x + uptoBulkEntries r
def uptoBulkEntry {H : Type} : Lit × DataW H → Nat
  | (.string bytes, d) => bytes.length + uptoBulk d + 1
  | (_, d) => uptoBulk d + 1
 end
def uptoSmall : (H : Type) → List (DataW H) → Bool := fun _ ds => decide (uptoBulkAll ds ≤ 1048576)
def OpenSpec.upto (s : _root_.Go.ChangeSpec) : _root_.Go.OpenSpec := { _root_.Go.OpenSpec.ofChange s with cond := some uptoSmall }

/-- 'confidantlaw12.ArenaPlays', WHERE WHAT IT READS IS OF BULK AT MOST 1048576: true; the input reads as it did. -/
def arenaPlaysUptoRow : OpenClaim := { program := "ytboelofkbhgmfaa", sum := "e57e73d0d67f070ebbbb282a144e4ab1f79558212770d45e075dbfa87f277e8d", func := "confidant/confidantlaw12.ArenaPlays", spec := "arenaPlays", apart := false, narrowed := true }
def ArenaPlaysUptoSaid : Prop := arenaPlaysUptoRow.holds Try.pinned (OpenSpec.upto arenaPlaysSpec)

/-- 'confidantlaw12.ArenaApart', WHERE WHAT IT READS IS OF BULK AT MOST 1048576: true; the input reads as it did. -/
def arenaApartUptoRow : OpenClaim := { program := "ytboelofkbhgmfaa", sum := "e57e73d0d67f070ebbbb282a144e4ab1f79558212770d45e075dbfa87f277e8d", func := "confidant/confidantlaw12.ArenaApart", spec := "arenaApart", apart := false, narrowed := true }
def ArenaApartUptoSaid : Prop := arenaApartUptoRow.holds Try.pinned (OpenSpec.upto arenaApartSpec)

/-- 'confidantlaw12.ArenaHolds', WHERE WHAT IT READS IS OF BULK AT MOST 1048576: true; the input reads as it did. -/
def arenaHoldsUptoRow : OpenClaim := { program := "ytboelofkbhgmfaa", sum := "e57e73d0d67f070ebbbb282a144e4ab1f79558212770d45e075dbfa87f277e8d", func := "confidant/confidantlaw12.ArenaHolds", spec := "arenaHolds", apart := false, narrowed := true }
def ArenaHoldsUptoSaid : Prop := arenaHoldsUptoRow.holds Try.pinned (OpenSpec.upto arenaHoldsSpec)

/-- 'confidantlaw12.ArenaNumbers', WHERE WHAT IT READS IS OF BULK AT MOST 1048576: true; the input reads as it did. -/
def arenaNumbersUptoRow : OpenClaim := { program := "ytboelofkbhgmfaa", sum := "e57e73d0d67f070ebbbb282a144e4ab1f79558212770d45e075dbfa87f277e8d", func := "confidant/confidantlaw12.ArenaNumbers", spec := "arenaNumbers", apart := false, narrowed := true }
def ArenaNumbersUptoSaid : Prop := arenaNumbersUptoRow.holds Try.pinned (OpenSpec.upto arenaNumbersSpec)

/-- 'confidantlaw13.FuturePlays', WHERE WHAT IT READS IS OF BULK AT MOST 1048576: true; the input reads as it did. -/
def futurePlaysUptoRow : OpenClaim := { program := "ytboelofkbhgmfaa", sum := "e57e73d0d67f070ebbbb282a144e4ab1f79558212770d45e075dbfa87f277e8d", func := "confidant/confidantlaw13.FuturePlays", spec := "futurePlays", unfollowed := true, recurses := true, apart := false, narrowed := true }
def FuturePlaysUptoSaid : Prop := futurePlaysUptoRow.holds Try.pinned (OpenSpec.upto futurePlaysSpec)

/-- 'confidantlaw13.FutureOnce', WHERE WHAT IT READS IS OF BULK AT MOST 1048576: true; the input reads as it did. -/
def futureOnceUptoRow : OpenClaim := { program := "ytboelofkbhgmfaa", sum := "e57e73d0d67f070ebbbb282a144e4ab1f79558212770d45e075dbfa87f277e8d", func := "confidant/confidantlaw13.FutureOnce", spec := "futureOnce", unfollowed := true, recurses := true, apart := false, narrowed := true }
def FutureOnceUptoSaid : Prop := futureOnceUptoRow.holds Try.pinned (OpenSpec.upto futureOnceSpec)

/-- 'confidantlaw13.FutureQuotas', WHERE WHAT IT READS IS OF BULK AT MOST 1048576: true; the input reads as it did. -/
def futureQuotasUptoRow : OpenClaim := { program := "ytboelofkbhgmfaa", sum := "e57e73d0d67f070ebbbb282a144e4ab1f79558212770d45e075dbfa87f277e8d", func := "confidant/confidantlaw13.FutureQuotas", spec := "futureQuotas", unfollowed := true, recurses := true, apart := false, narrowed := true }
def FutureQuotasUptoSaid : Prop := futureQuotasUptoRow.holds Try.pinned (OpenSpec.upto futureQuotasSpec)

/-- 'confidantlaw13.FutureApart', WHERE WHAT IT READS IS OF BULK AT MOST 1048576: true; the input reads as it did. -/
def futureApartUptoRow : OpenClaim := { program := "ytboelofkbhgmfaa", sum := "e57e73d0d67f070ebbbb282a144e4ab1f79558212770d45e075dbfa87f277e8d", func := "confidant/confidantlaw13.FutureApart", spec := "futureApart", unfollowed := true, recurses := true, apart := false, narrowed := true }
def FutureApartUptoSaid : Prop := futureApartUptoRow.holds Try.pinned (OpenSpec.upto futureApartSpec)

/-- 'confidantlaw20.ParkPlays', WHERE WHAT IT READS IS OF BULK AT MOST 1048576: true; the input reads as it did. -/
def parkPlaysUptoRow : OpenClaim := { program := "ytboelofkbhgmfaa", sum := "e57e73d0d67f070ebbbb282a144e4ab1f79558212770d45e075dbfa87f277e8d", func := "confidant/confidantlaw20.ParkPlays", spec := "parkPlays", unfollowed := true, recurses := true, apart := false, narrowed := true }
def ParkPlaysUptoSaid : Prop := parkPlaysUptoRow.holds Try.pinned (OpenSpec.upto parkPlaysSpec)

/-- 'confidantlaw20.ParkNobody', WHERE WHAT IT READS IS OF BULK AT MOST 1048576: true; the input reads as it did. -/
def parkNobodyUptoRow : OpenClaim := { program := "ytboelofkbhgmfaa", sum := "e57e73d0d67f070ebbbb282a144e4ab1f79558212770d45e075dbfa87f277e8d", func := "confidant/confidantlaw20.ParkNobody", spec := "parkNobody", unfollowed := true, recurses := true, apart := false, narrowed := true }
def ParkNobodyUptoSaid : Prop := parkNobodyUptoRow.holds Try.pinned (OpenSpec.upto parkNobodySpec)

/-- 'confidantlaw20.ParkStays', WHERE WHAT IT READS IS OF BULK AT MOST 1048576: true; the input reads as it did. -/
def parkStaysUptoRow : OpenClaim := { program := "ytboelofkbhgmfaa", sum := "e57e73d0d67f070ebbbb282a144e4ab1f79558212770d45e075dbfa87f277e8d", func := "confidant/confidantlaw20.ParkStays", spec := "parkStays", unfollowed := true, recurses := true, apart := false, narrowed := true }
def ParkStaysUptoSaid : Prop := parkStaysUptoRow.holds Try.pinned (OpenSpec.upto parkStaysSpec)

/-- 'confidantlaw20.ParkFuel', WHERE WHAT IT READS IS OF BULK AT MOST 1048576: true; the input reads as it did. -/
def parkFuelUptoRow : OpenClaim := { program := "ytboelofkbhgmfaa", sum := "e57e73d0d67f070ebbbb282a144e4ab1f79558212770d45e075dbfa87f277e8d", func := "confidant/confidantlaw20.ParkFuel", spec := "parkFuel", unfollowed := true, recurses := true, apart := false, narrowed := true }
def ParkFuelUptoSaid : Prop := parkFuelUptoRow.holds Try.pinned (OpenSpec.upto parkFuelSpec)

end Rows
end Go.Proofs.Ytboelofkbhgmfaa
