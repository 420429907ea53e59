/-
  No cell of these rows narrows 'for every input' (looked for: loops, veiled, ifaces, maps, wideKeys, modest, calm, conditions, laid).
  DERIVED. THE GIVEN ROWS OF THIS SEAT. 8 by the template 'for every input the law returns true; each argument reads behind the call as it read before'; 0 by the template 'total and deterministic' (their statements: YtmcphlklknfbmaaTotals.lean).
  GIVEN WITH THE SEED: the statements are not yours to turn. If you find one false, say at which input.
  Laid BY PROGRAM, IN A SANDBOX (cutbox-rows.mjs): the forced cells as the released guide's own fill.sh prints them over the translation cffc7cdd42a2fbc4… (all of the seat's roots in one cut). By AI agents, Wed Nov 11 2026. No macro, syntax, notation, axiom, sorry.
-/
import Derived.Test.YtmcphlklknfbmaaChecked
import GoSem.Claim
import GoSem.ClaimJoined
import GoSem.ClaimMapViews
import Derived.JoinedTies
import Derived.KernelRfl
namespace Go.Proofs.Ytmcphlklknfbmaa
/- THE CELL 'sum', in the pinned program and in every row, IS THE sha256 OF THE DUMP (.gsa) THAT YtmcphlklknfbmaaProg.lean LOADS. Nothing in Lean hashes anything: it is a label: what it is worth is what the hold of that sum in a sandbox is worth. -/
noncomputable def Try.pinned : Pinned := { name := "ytmcphlklknfbmaa", sum := "cffc7cdd42a2fbc4fb3c5e0833d56ad5deaa68125fcedd46852212e86e504e0f", checked := Try.checked }
namespace Rows
def none {H : Type} : Left H := { results := [], args := [] }

/-- 'confidantlaw21.GatePlays': WHATEVER THE INPUT: true; the input reads as it did. -/
def gatePlaysSpec : ChangeSpec := { name := "gatePlays", fn := fun _ => fun
  | [d1, d2, d3] => { results := [.lit (.bool true)], args := [d1, d2, d3] }
  | _ => none }
def gatePlaysRow : OpenClaim := { program := "ytmcphlklknfbmaa", sum := "cffc7cdd42a2fbc4fb3c5e0833d56ad5deaa68125fcedd46852212e86e504e0f", func := "confidant/confidantlaw21.GatePlays", spec := "gatePlays", unfollowed := true, recurses := true, apart := false }
def GatePlaysSaid : Prop := gatePlaysRow.holds Try.pinned (OpenSpec.ofChange gatePlaysSpec)

/-- ITS FALSE NEIGHBOUR: 'it returns false'. Refute it at one input. -/
def gatePlaysWrong : ChangeSpec := { name := "gatePlays", fn := fun _ => fun
  | [d1, d2, d3] => { results := [.lit (.bool false)], args := [d1, d2, d3] }
  | _ => none }
def GatePlaysWrongFalsely : Prop := gatePlaysRow.holds Try.pinned (OpenSpec.ofChange gatePlaysWrong)

/-- 'confidantlaw21.GateRights': WHATEVER THE INPUT: true; the input reads as it did. -/
def gateRightsSpec : ChangeSpec := { name := "gateRights", fn := fun _ => fun
  | [d1, d2, d3] => { results := [.lit (.bool true)], args := [d1, d2, d3] }
  | _ => none }
def gateRightsRow : OpenClaim := { program := "ytmcphlklknfbmaa", sum := "cffc7cdd42a2fbc4fb3c5e0833d56ad5deaa68125fcedd46852212e86e504e0f", func := "confidant/confidantlaw21.GateRights", spec := "gateRights", unfollowed := true, recurses := true, apart := false }
def GateRightsSaid : Prop := gateRightsRow.holds Try.pinned (OpenSpec.ofChange gateRightsSpec)

/-- ITS FALSE NEIGHBOUR: 'it returns false'. Refute it at one input. -/
def gateRightsWrong : ChangeSpec := { name := "gateRights", fn := fun _ => fun
  | [d1, d2, d3] => { results := [.lit (.bool false)], args := [d1, d2, d3] }
  | _ => none }
def GateRightsWrongFalsely : Prop := gateRightsRow.holds Try.pinned (OpenSpec.ofChange gateRightsWrong)

/-- 'confidantlaw21.GateDown': WHATEVER THE INPUT: true; the input reads as it did. -/
def gateDownSpec : ChangeSpec := { name := "gateDown", fn := fun _ => fun
  | [d1, d2, d3] => { results := [.lit (.bool true)], args := [d1, d2, d3] }
  | _ => none }
def gateDownRow : OpenClaim := { program := "ytmcphlklknfbmaa", sum := "cffc7cdd42a2fbc4fb3c5e0833d56ad5deaa68125fcedd46852212e86e504e0f", func := "confidant/confidantlaw21.GateDown", spec := "gateDown", unfollowed := true, recurses := true, apart := false }
def GateDownSaid : Prop := gateDownRow.holds Try.pinned (OpenSpec.ofChange gateDownSpec)

/-- ITS FALSE NEIGHBOUR: 'it returns false'. Refute it at one input. -/
def gateDownWrong : ChangeSpec := { name := "gateDown", fn := fun _ => fun
  | [d1, d2, d3] => { results := [.lit (.bool false)], args := [d1, d2, d3] }
  | _ => none }
def GateDownWrongFalsely : Prop := gateDownRow.holds Try.pinned (OpenSpec.ofChange gateDownWrong)

/-- 'confidantlaw21.GateOrders': WHATEVER THE INPUT: true; the input reads as it did. -/
def gateOrdersSpec : ChangeSpec := { name := "gateOrders", fn := fun _ => fun
  | [d1, d2, d3] => { results := [.lit (.bool true)], args := [d1, d2, d3] }
  | _ => none }
def gateOrdersRow : OpenClaim := { program := "ytmcphlklknfbmaa", sum := "cffc7cdd42a2fbc4fb3c5e0833d56ad5deaa68125fcedd46852212e86e504e0f", func := "confidant/confidantlaw21.GateOrders", spec := "gateOrders", unfollowed := true, recurses := true, apart := false }
def GateOrdersSaid : Prop := gateOrdersRow.holds Try.pinned (OpenSpec.ofChange gateOrdersSpec)

/-- ITS FALSE NEIGHBOUR: 'it returns false'. Refute it at one input. -/
def gateOrdersWrong : ChangeSpec := { name := "gateOrders", fn := fun _ => fun
  | [d1, d2, d3] => { results := [.lit (.bool false)], args := [d1, d2, d3] }
  | _ => none }
def GateOrdersWrongFalsely : Prop := gateOrdersRow.holds Try.pinned (OpenSpec.ofChange gateOrdersWrong)

/-- 'confidantlaw21.GateQuotas': WHATEVER THE INPUT: true; the input reads as it did. -/
def gateQuotasSpec : ChangeSpec := { name := "gateQuotas", fn := fun _ => fun
  | [d1, d2] => { results := [.lit (.bool true)], args := [d1, d2] }
  | _ => none }
def gateQuotasRow : OpenClaim := { program := "ytmcphlklknfbmaa", sum := "cffc7cdd42a2fbc4fb3c5e0833d56ad5deaa68125fcedd46852212e86e504e0f", func := "confidant/confidantlaw21.GateQuotas", spec := "gateQuotas", unfollowed := true, recurses := true, apart := false }
def GateQuotasSaid : Prop := gateQuotasRow.holds Try.pinned (OpenSpec.ofChange gateQuotasSpec)

/-- ITS FALSE NEIGHBOUR: 'it returns false'. Refute it at one input. -/
def gateQuotasWrong : ChangeSpec := { name := "gateQuotas", fn := fun _ => fun
  | [d1, d2] => { results := [.lit (.bool false)], args := [d1, d2] }
  | _ => none }
def GateQuotasWrongFalsely : Prop := gateQuotasRow.holds Try.pinned (OpenSpec.ofChange gateQuotasWrong)

/-- 'confidantlaw22.AuditTells': WHATEVER THE INPUT: true; the input reads as it did. -/
def auditTellsSpec : ChangeSpec := { name := "auditTells", fn := fun _ => fun
  | [d1, d2, d3, d4, d5, d6] => { results := [.lit (.bool true)], args := [d1, d2, d3, d4, d5, d6] }
  | _ => none }
def auditTellsRow : OpenClaim := { program := "ytmcphlklknfbmaa", sum := "cffc7cdd42a2fbc4fb3c5e0833d56ad5deaa68125fcedd46852212e86e504e0f", func := "confidant/confidantlaw22.AuditTells", spec := "auditTells", unfollowed := true, recurses := true, apart := false }
def AuditTellsSaid : Prop := auditTellsRow.holds Try.pinned (OpenSpec.ofChange auditTellsSpec)

/-- ITS FALSE NEIGHBOUR: 'it returns false'. Refute it at one input. -/
def auditTellsWrong : ChangeSpec := { name := "auditTells", fn := fun _ => fun
  | [d1, d2, d3, d4, d5, d6] => { results := [.lit (.bool false)], args := [d1, d2, d3, d4, d5, d6] }
  | _ => none }
def AuditTellsWrongFalsely : Prop := auditTellsRow.holds Try.pinned (OpenSpec.ofChange auditTellsWrong)

/-- 'confidantlaw22.AuditReads': WHATEVER THE INPUT: true; the input reads as it did. -/
def auditReadsSpec : ChangeSpec := { name := "auditReads", fn := fun _ => fun
  | [d1, d2, d3, d4, d5] => { results := [.lit (.bool true)], args := [d1, d2, d3, d4, d5] }
  | _ => none }
def auditReadsRow : OpenClaim := { program := "ytmcphlklknfbmaa", sum := "cffc7cdd42a2fbc4fb3c5e0833d56ad5deaa68125fcedd46852212e86e504e0f", func := "confidant/confidantlaw22.AuditReads", spec := "auditReads", unfollowed := true, recurses := true, apart := false }
def AuditReadsSaid : Prop := auditReadsRow.holds Try.pinned (OpenSpec.ofChange auditReadsSpec)

/-- ITS FALSE NEIGHBOUR: 'it returns false'. Refute it at one input. -/
def auditReadsWrong : ChangeSpec := { name := "auditReads", fn := fun _ => fun
  | [d1, d2, d3, d4, d5] => { results := [.lit (.bool false)], args := [d1, d2, d3, d4, d5] }
  | _ => none }
def AuditReadsWrongFalsely : Prop := auditReadsRow.holds Try.pinned (OpenSpec.ofChange auditReadsWrong)

/-- 'confidantlaw22.AuditParts': WHATEVER THE INPUT: true; the input reads as it did. -/
def auditPartsSpec : ChangeSpec := { name := "auditParts", fn := fun _ => fun
  | [d1, d2, d3] => { results := [.lit (.bool true)], args := [d1, d2, d3] }
  | _ => none }
def auditPartsRow : OpenClaim := { program := "ytmcphlklknfbmaa", sum := "cffc7cdd42a2fbc4fb3c5e0833d56ad5deaa68125fcedd46852212e86e504e0f", func := "confidant/confidantlaw22.AuditParts", spec := "auditParts", unfollowed := true, recurses := true, apart := false }
def AuditPartsSaid : Prop := auditPartsRow.holds Try.pinned (OpenSpec.ofChange auditPartsSpec)

/-- ITS FALSE NEIGHBOUR: 'it returns false'. Refute it at one input. -/
def auditPartsWrong : ChangeSpec := { name := "auditParts", fn := fun _ => fun
  | [d1, d2, d3] => { results := [.lit (.bool false)], args := [d1, d2, d3] }
  | _ => none }
def AuditPartsWrongFalsely : Prop := auditPartsRow.holds Try.pinned (OpenSpec.ofChange auditPartsWrong)

/- THE SECOND FORM. 'bulk': how many values and letters a reading holds, each counted each time it is reached (what is shared counts as often as it is met; a slice's spare places count too). A statement '..UptoSaid' is the law's where the arguments, and the package variables that the reading takes, are together of bulk at most 1048576: NARROWER than '..Said'. Prove '..Said' where nothing that the law and all that it calls make is longer than what came in: it says more and counts as full. Else prove '..UptoSaid'. A law counts once. -/
mutual
def uptoBulk {H : Type} : DataW H → Nat
  | .lit (.string bytes) => bytes.length + 1
  | .lit _ => 1
  | .nil => 1
  | .ptr d => uptoBulk d + 1
  | .slice elems spare => uptoBulkAll elems + uptoBulkAll spare + 1
  | .agg parts => uptoBulkAll parts + 1
  | .iface _ d => uptoBulk d + 1
  | .map entries => uptoBulkEntries entries + 1
  | .held _ => 1
def uptoBulkAll {H : Type} : List (DataW H) → Nat
  | [] => 0
  | d :: r => uptoBulk d + uptoBulkAll r
def uptoBulkEntries {H : Type} : List (Lit × DataW H) → Nat
  | [] => 0
  | x :: r => uptoBulkEntry x + uptoBulkEntries r
def uptoBulkEntry {H : Type} : Lit × DataW H → Nat
  | (.string bytes, d) => bytes.length + uptoBulk d + 1
  | (_, d) => uptoBulk d + 1
 end
def uptoSmall : (H : Type) → List (DataW H) → Bool := fun _ ds => decide (uptoBulkAll ds ≤ 1048576)
def OpenSpec.upto (s : _root_.Go.ChangeSpec) : _root_.Go.OpenSpec := { _root_.Go.OpenSpec.ofChange s with cond := some uptoSmall }

/-- 'confidantlaw21.GatePlays', WHERE WHAT IT READS IS OF BULK AT MOST 1048576: true; the input reads as it did. -/
def gatePlaysUptoRow : OpenClaim := { program := "ytmcphlklknfbmaa", sum := "cffc7cdd42a2fbc4fb3c5e0833d56ad5deaa68125fcedd46852212e86e504e0f", func := "confidant/confidantlaw21.GatePlays", spec := "gatePlays", unfollowed := true, recurses := true, apart := false, narrowed := true }
def GatePlaysUptoSaid : Prop := gatePlaysUptoRow.holds Try.pinned (OpenSpec.upto gatePlaysSpec)

/-- 'confidantlaw21.GateRights', WHERE WHAT IT READS IS OF BULK AT MOST 1048576: true; the input reads as it did. -/
def gateRightsUptoRow : OpenClaim := { program := "ytmcphlklknfbmaa", sum := "cffc7cdd42a2fbc4fb3c5e0833d56ad5deaa68125fcedd46852212e86e504e0f", func := "confidant/confidantlaw21.GateRights", spec := "gateRights", unfollowed := true, recurses := true, apart := false, narrowed := true }
def GateRightsUptoSaid : Prop := gateRightsUptoRow.holds Try.pinned (OpenSpec.upto gateRightsSpec)

/-- 'confidantlaw21.GateDown', WHERE WHAT IT READS IS OF BULK AT MOST 1048576: true; the input reads as it did. -/
def gateDownUptoRow : OpenClaim := { program := "ytmcphlklknfbmaa", sum := "cffc7cdd42a2fbc4fb3c5e0833d56ad5deaa68125fcedd46852212e86e504e0f", func := "confidant/confidantlaw21.GateDown", spec := "gateDown", unfollowed := true, recurses := true, apart := false, narrowed := true }
def GateDownUptoSaid : Prop := gateDownUptoRow.holds Try.pinned (OpenSpec.upto gateDownSpec)

/-- 'confidantlaw21.GateOrders', WHERE WHAT IT READS IS OF BULK AT MOST 1048576: true; the input reads as it did. -/
def gateOrdersUptoRow : OpenClaim := { program := "ytmcphlklknfbmaa", sum := "cffc7cdd42a2fbc4fb3c5e0833d56ad5deaa68125fcedd46852212e86e504e0f", func := "confidant/confidantlaw21.GateOrders", spec := "gateOrders", unfollowed := true, recurses := true, apart := false, narrowed := true }
def GateOrdersUptoSaid : Prop := gateOrdersUptoRow.holds Try.pinned (OpenSpec.upto gateOrdersSpec)

/-- 'confidantlaw21.GateQuotas', WHERE WHAT IT READS IS OF BULK AT MOST 1048576: true; the input reads as it did. -/
def gateQuotasUptoRow : OpenClaim := { program := "ytmcphlklknfbmaa", sum := "cffc7cdd42a2fbc4fb3c5e0833d56ad5deaa68125fcedd46852212e86e504e0f", func := "confidant/confidantlaw21.GateQuotas", spec := "gateQuotas", unfollowed := true, recurses := true, apart := false, narrowed := true }
def GateQuotasUptoSaid : Prop := gateQuotasUptoRow.holds Try.pinned (OpenSpec.upto gateQuotasSpec)

/-- 'confidantlaw22.AuditTells', WHERE WHAT IT READS IS OF BULK AT MOST 1048576: true; the input reads as it did. -/
def auditTellsUptoRow : OpenClaim := { program := "ytmcphlklknfbmaa", sum := "cffc7cdd42a2fbc4fb3c5e0833d56ad5deaa68125fcedd46852212e86e504e0f", func := "confidant/confidantlaw22.AuditTells", spec := "auditTells", unfollowed := true, recurses := true, apart := false, narrowed := true }
def AuditTellsUptoSaid : Prop := auditTellsUptoRow.holds Try.pinned (OpenSpec.upto auditTellsSpec)

/-- 'confidantlaw22.AuditReads', WHERE WHAT IT READS IS OF BULK AT MOST 1048576: true; the input reads as it did. -/
def auditReadsUptoRow : OpenClaim := { program := "ytmcphlklknfbmaa", sum := "cffc7cdd42a2fbc4fb3c5e0833d56ad5deaa68125fcedd46852212e86e504e0f", func := "confidant/confidantlaw22.AuditReads", spec := "auditReads", unfollowed := true, recurses := true, apart := false, narrowed := true }
def AuditReadsUptoSaid : Prop := auditReadsUptoRow.holds Try.pinned (OpenSpec.upto auditReadsSpec)

/-- 'confidantlaw22.AuditParts', WHERE WHAT IT READS IS OF BULK AT MOST 1048576: true; the input reads as it did. -/
def auditPartsUptoRow : OpenClaim := { program := "ytmcphlklknfbmaa", sum := "cffc7cdd42a2fbc4fb3c5e0833d56ad5deaa68125fcedd46852212e86e504e0f", func := "confidant/confidantlaw22.AuditParts", spec := "auditParts", unfollowed := true, recurses := true, apart := false, narrowed := true }
def AuditPartsUptoSaid : Prop := auditPartsUptoRow.holds Try.pinned (OpenSpec.upto auditPartsSpec)

end Rows
end Go.Proofs.Ytmcphlklknfbmaa
