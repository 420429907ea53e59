/-
  DERIVED. GIVEN WITH THE SEED: THE CARDS: each row of YtmcniddpjpbghaaDoorRows.lean that lists a variable, with what it lists TIED to the program's text (the seventh form; the later family's looks); each row that meets fmt, with fmt's text TOLD by the authors' own Lean function (tested against real Go, not proved from fmt's source: count such statements apart). THE CARD IS WHAT COUNTS. Prove the row's statement (the work); the ties are given (YtmcniddpjpbghaaDoorTie.lean); close each card by the builder's one call (the guide's Derived/Test/ToyasCard.lean, 'card_holds'). Laid BY PROGRAM, IN A SANDBOX (cutbox-door.mjs). By AI agents, Wed Nov 11 2026. No macro, syntax, notation, axiom, sorry.
-/
import Derived.Test.YtmcniddpjpbghaaDoorRows
import GoSem.ClaimSeven
namespace Go.Proofs.YtmcniddpjpbghaaDoor
namespace Rows

/-- THE TIED CARD OF 'confidantlaw6.InstrTells'. -/
def instrTellsCard : Claim7 := { stood := { row := instrTellsRow, standIns := [], harness := (true, "d354eaa05f7e50e63d71b9f9e71433e09d0d5cbefc77833d54518010150ef167"), looks := true }, kinds := [], alts := [], laidByText := true, laidKinds := [.data, .data, .data, .data, .sentinel, .sentinel], laidTests := true, laidLooks := .later }
def InstrTellsCardSaid : Prop := Claim7.holds Tryd.pinned (.plain (OpenSpec.ofChange instrTellsSpec)) instrTellsCard

/-- THE TIED CARD OF 'confidantlaw6.InstrReads'. -/
def instrReadsCard : Claim7 := { stood := { row := instrReadsRow, standIns := [], harness := (true, "d354eaa05f7e50e63d71b9f9e71433e09d0d5cbefc77833d54518010150ef167"), looks := true }, kinds := [], alts := [], laidByText := true, laidKinds := [.data, .data, .data, .data, .sentinel, .sentinel], laidTests := true, laidLooks := .later }
def InstrReadsCardSaid : Prop := Claim7.holds Tryd.pinned (.plain (OpenSpec.ofChange instrReadsSpec)) instrReadsCard

/-- THE TIED CARD OF 'confidantlaw6.InstrNumbers'. -/
def instrNumbersCard : Claim7 := { stood := { row := instrNumbersRow, standIns := [], harness := (true, "d354eaa05f7e50e63d71b9f9e71433e09d0d5cbefc77833d54518010150ef167"), looks := true }, kinds := [], alts := [], laidByText := true, laidKinds := [.data, .data, .data, .data, .sentinel, .sentinel], laidTests := true, laidLooks := .later }
def InstrNumbersCardSaid : Prop := Claim7.holds Tryd.pinned (.plain (OpenSpec.ofChange instrNumbersSpec)) instrNumbersCard

/-- THE TIED CARD OF 'confidantlaw7.ImageLimits'. -/
def imageLimitsCard : Claim7 := { stood := { row := imageLimitsRow, standIns := [], harness := (true, "d354eaa05f7e50e63d71b9f9e71433e09d0d5cbefc77833d54518010150ef167"), looks := true }, kinds := [], alts := [], laidByText := true, laidKinds := [.data, .data, .data, .data, .data, .sentinel, .sentinel, .pinned], laidTests := true, laidLooks := .later }
def ImageLimitsCardSaid : Prop := Claim7.holds Tryd.pinned (.plain (OpenSpec.ofChange imageLimitsSpec)) imageLimitsCard

/-- THE SECOND FORM's CARD OF 'confidantlaw6.InstrTells'. -/
def instrTellsUptoCard : Claim7 := { stood := { row := instrTellsUptoRow, standIns := [], harness := (true, "d354eaa05f7e50e63d71b9f9e71433e09d0d5cbefc77833d54518010150ef167"), looks := true }, kinds := [], alts := [], laidByText := true, laidKinds := [.data, .data, .data, .data, .sentinel, .sentinel], laidTests := true, laidLooks := .later }
def InstrTellsUptoCardSaid : Prop := Claim7.holds Tryd.pinned (.plain (OpenSpec.upto instrTellsSpec)) instrTellsUptoCard

/-- THE SECOND FORM's CARD OF 'confidantlaw6.InstrReads'. -/
def instrReadsUptoCard : Claim7 := { stood := { row := instrReadsUptoRow, standIns := [], harness := (true, "d354eaa05f7e50e63d71b9f9e71433e09d0d5cbefc77833d54518010150ef167"), looks := true }, kinds := [], alts := [], laidByText := true, laidKinds := [.data, .data, .data, .data, .sentinel, .sentinel], laidTests := true, laidLooks := .later }
def InstrReadsUptoCardSaid : Prop := Claim7.holds Tryd.pinned (.plain (OpenSpec.upto instrReadsSpec)) instrReadsUptoCard

/-- THE SECOND FORM's CARD OF 'confidantlaw6.InstrNumbers'. -/
def instrNumbersUptoCard : Claim7 := { stood := { row := instrNumbersUptoRow, standIns := [], harness := (true, "d354eaa05f7e50e63d71b9f9e71433e09d0d5cbefc77833d54518010150ef167"), looks := true }, kinds := [], alts := [], laidByText := true, laidKinds := [.data, .data, .data, .data, .sentinel, .sentinel], laidTests := true, laidLooks := .later }
def InstrNumbersUptoCardSaid : Prop := Claim7.holds Tryd.pinned (.plain (OpenSpec.upto instrNumbersSpec)) instrNumbersUptoCard

/-- THE SECOND FORM's CARD OF 'confidantlaw7.ImageLimits'. -/
def imageLimitsUptoCard : Claim7 := { stood := { row := imageLimitsUptoRow, standIns := [], harness := (true, "d354eaa05f7e50e63d71b9f9e71433e09d0d5cbefc77833d54518010150ef167"), looks := true }, kinds := [], alts := [], laidByText := true, laidKinds := [.data, .data, .data, .data, .data, .sentinel, .sentinel, .pinned], laidTests := true, laidLooks := .later }
def ImageLimitsUptoCardSaid : Prop := Claim7.holds Tryd.pinned (.plain (OpenSpec.upto imageLimitsSpec)) imageLimitsUptoCard
end Rows
end Go.Proofs.YtmcniddpjpbghaaDoor
