/-
  DERIVED. GIVEN WITH THE SEED: THE CARDS: each row of YteaopephdjoegaaGreatDoorRows.lean that lists a variable, with what it lists TIED to the program's text (the seventh form; the later family's looks); each row that meets fmt, with fmt's text TOLD by the authors' own Lean function (tested against real Go, not proved from fmt's source: count such statements apart). THE CARD IS WHAT COUNTS. Prove the row's statement (the work); the ties are given (YteaopephdjoegaaGreatDoorTie.lean); close each card by the builder's one call (the guide's Derived/Test/ToyasCard.lean, 'card_holds'). Laid BY PROGRAM, IN A SANDBOX (cutbox-door.mjs). By AI agents, Wed Nov 11 2026. No macro, syntax, notation, axiom, sorry.
-/
import Derived.Test.YteaopephdjoegaaGreatDoorRows
import GoSem.ClaimSeven
namespace Go.Proofs.YteaopephdjoegaaGreatDoor
namespace Rows

/-- THE TIED CARD OF 'suturelaw5.ParseTells'. -/
def parseTellsCard : Claim7 := { stood := { row := parseTellsRow, standIns := [], harness := (true, "32224df6e52b8b0548cfda6d3b7e0598282a2ba7e1b9a20f5567f80c5c9624ae"), looks := true }, kinds := [], alts := [], laidByText := true, laidKinds := [.data, .data, .data, .sentinel, .sentinel], laidTests := true, laidLooks := .later }
def ParseTellsCardSaid : Prop := Claim7.holds Tryz.pinned (.plain (OpenSpec.ofChange parseTellsSpec)) parseTellsCard

/-- THE TIED CARD OF 'suturelaw5.ParseShown'. -/
def parseShownCard : Claim7 := { stood := { row := parseShownRow, standIns := [], harness := (true, "32224df6e52b8b0548cfda6d3b7e0598282a2ba7e1b9a20f5567f80c5c9624ae"), looks := true }, kinds := [], alts := [], laidByText := true, laidKinds := [.data, .data, .data, .sentinel, .sentinel], laidTests := true, laidLooks := .later }
def ParseShownCardSaid : Prop := Claim7.holds Tryz.pinned (.plain (OpenSpec.ofChange parseShownSpec)) parseShownCard

/-- THE TIED CARD OF 'suturelaw5.ParseAfter'. -/
def parseAfterCard : Claim7 := { stood := { row := parseAfterRow, standIns := [], harness := (true, "32224df6e52b8b0548cfda6d3b7e0598282a2ba7e1b9a20f5567f80c5c9624ae"), looks := true }, kinds := [], alts := [], laidByText := true, laidKinds := [.data, .data, .data, .sentinel, .sentinel], laidTests := true, laidLooks := .later }
def ParseAfterCardSaid : Prop := Claim7.holds Tryz.pinned (.plain (OpenSpec.ofChange parseAfterSpec)) parseAfterCard

/-- THE SECOND FORM's CARD OF 'suturelaw5.ParseTells'. -/
def parseTellsUptoCard : Claim7 := { stood := { row := parseTellsUptoRow, standIns := [], harness := (true, "32224df6e52b8b0548cfda6d3b7e0598282a2ba7e1b9a20f5567f80c5c9624ae"), looks := true }, kinds := [], alts := [], laidByText := true, laidKinds := [.data, .data, .data, .sentinel, .sentinel], laidTests := true, laidLooks := .later }
def ParseTellsUptoCardSaid : Prop := Claim7.holds Tryz.pinned (.plain (OpenSpec.upto parseTellsSpec)) parseTellsUptoCard

/-- THE SECOND FORM's CARD OF 'suturelaw5.ParseShown'. -/
def parseShownUptoCard : Claim7 := { stood := { row := parseShownUptoRow, standIns := [], harness := (true, "32224df6e52b8b0548cfda6d3b7e0598282a2ba7e1b9a20f5567f80c5c9624ae"), looks := true }, kinds := [], alts := [], laidByText := true, laidKinds := [.data, .data, .data, .sentinel, .sentinel], laidTests := true, laidLooks := .later }
def ParseShownUptoCardSaid : Prop := Claim7.holds Tryz.pinned (.plain (OpenSpec.upto parseShownSpec)) parseShownUptoCard

/-- THE SECOND FORM's CARD OF 'suturelaw5.ParseAfter'. -/
def parseAfterUptoCard : Claim7 := { stood := { row := parseAfterUptoRow, standIns := [], harness := (true, "32224df6e52b8b0548cfda6d3b7e0598282a2ba7e1b9a20f5567f80c5c9624ae"), looks := true }, kinds := [], alts := [], laidByText := true, laidKinds := [.data, .data, .data, .sentinel, .sentinel], laidTests := true, laidLooks := .later }
def ParseAfterUptoCardSaid : Prop := Claim7.holds Tryz.pinned (.plain (OpenSpec.upto parseAfterSpec)) parseAfterUptoCard
end Rows
end Go.Proofs.YteaopephdjoegaaGreatDoor
