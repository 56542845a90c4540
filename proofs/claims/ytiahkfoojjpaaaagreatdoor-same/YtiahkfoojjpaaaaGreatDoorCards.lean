/-
  DERIVED. GIVEN WITH THE SEED: THE CARDS: each row of YtiahkfoojjpaaaaGreatDoorRows.lean that lists a variable, with what it lists TIED to the program's text (the seventh form; the later family's looks); each row that meets fmt, with fmt's text TOLD by the authors' own Lean function (tested against real Go, not proved from fmt's source: count such statements apart). THE CARD IS WHAT COUNTS. Prove the row's statement (the work); the ties are given (YtiahkfoojjpaaaaGreatDoorTie.lean); close each card by the builder's one call (the guide's Derived/Test/ToyasCard.lean, 'card_holds'). Laid BY PROGRAM, IN A SANDBOX (cutbox-door.mjs). By AI agents, Wed Nov 11 2026. No macro, syntax, notation, axiom, sorry.
-/
import Derived.Test.YtiahkfoojjpaaaaGreatDoorRows
import GoSem.ClaimSeven
namespace Go.Proofs.YtiahkfoojjpaaaaGreatDoor
namespace Rows

/-- THE TIED CARD OF 'ribbonkeep.Same'. -/
def sameCard : Claim7 := { stood := { row := sameRow, standIns := [], harness := (true, "93209e27e057bc01aae0948a85374bfb2c1d9bfece8ee0074fb52bd347bc96b7"), looks := true }, kinds := [], alts := [], laidByText := true, laidKinds := [.data, .data, .data, .data], laidTests := true, laidLooks := .later }
def SameCardSaid : Prop := Claim7.holds Tryz.pinned (.plain (OpenSpec.ofChange sameSpec)) sameCard

/-- THE TIED CARD OF 'ribbonkeep.Pieces'. -/
def piecesCard : Claim7 := { stood := { row := piecesRow, standIns := [], harness := (true, "93209e27e057bc01aae0948a85374bfb2c1d9bfece8ee0074fb52bd347bc96b7"), looks := true }, kinds := [], alts := [], laidByText := true, laidKinds := [.data, .data, .data, .data], laidTests := true, laidLooks := .later }
def PiecesCardSaid : Prop := Claim7.holds Tryz.pinned (.plain (OpenSpec.ofChange piecesSpec)) piecesCard

/-- THE TIED CARD OF 'ribbonkeep.Prompt'. -/
def promptCard : Claim7 := { stood := { row := promptRow, standIns := [], harness := (true, "93209e27e057bc01aae0948a85374bfb2c1d9bfece8ee0074fb52bd347bc96b7"), looks := true }, kinds := [], alts := [], laidByText := true, laidKinds := [.data, .data, .data, .data], laidTests := true, laidLooks := .later }
def PromptCardSaid : Prop := Claim7.holds Tryz.pinned (.plain (OpenSpec.ofChange promptSpec)) promptCard

/-- THE TIED CARD OF 'ribbonkeep.Firm'. -/
def firmCard : Claim7 := { stood := { row := firmRow, standIns := [], harness := (true, "93209e27e057bc01aae0948a85374bfb2c1d9bfece8ee0074fb52bd347bc96b7"), looks := true }, kinds := [], alts := [], laidByText := true, laidKinds := [.data, .data, .data, .data], laidTests := true, laidLooks := .later }
def FirmCardSaid : Prop := Claim7.holds Tryz.pinned (.plain (OpenSpec.ofChange firmSpec)) firmCard

/-- THE TIED CARD OF 'ribbonkeep.Apart'. -/
def apartCard : Claim7 := { stood := { row := apartRow, standIns := [], harness := (true, "93209e27e057bc01aae0948a85374bfb2c1d9bfece8ee0074fb52bd347bc96b7"), looks := true }, kinds := [], alts := [], laidByText := true, laidKinds := [.data, .data, .data, .data], laidTests := true, laidLooks := .later }
def ApartCardSaid : Prop := Claim7.holds Tryz.pinned (.plain (OpenSpec.ofChange apartSpec)) apartCard

/-- THE SECOND FORM's CARD OF 'ribbonkeep.Same'. -/
def sameUptoCard : Claim7 := { stood := { row := sameUptoRow, standIns := [], harness := (true, "93209e27e057bc01aae0948a85374bfb2c1d9bfece8ee0074fb52bd347bc96b7"), looks := true }, kinds := [], alts := [], laidByText := true, laidKinds := [.data, .data, .data, .data], laidTests := true, laidLooks := .later }
def SameUptoCardSaid : Prop := Claim7.holds Tryz.pinned (.plain (OpenSpec.upto sameSpec)) sameUptoCard

/-- THE SECOND FORM's CARD OF 'ribbonkeep.Pieces'. -/
def piecesUptoCard : Claim7 := { stood := { row := piecesUptoRow, standIns := [], harness := (true, "93209e27e057bc01aae0948a85374bfb2c1d9bfece8ee0074fb52bd347bc96b7"), looks := true }, kinds := [], alts := [], laidByText := true, laidKinds := [.data, .data, .data, .data], laidTests := true, laidLooks := .later }
def PiecesUptoCardSaid : Prop := Claim7.holds Tryz.pinned (.plain (OpenSpec.upto piecesSpec)) piecesUptoCard

/-- THE SECOND FORM's CARD OF 'ribbonkeep.Prompt'. -/
def promptUptoCard : Claim7 := { stood := { row := promptUptoRow, standIns := [], harness := (true, "93209e27e057bc01aae0948a85374bfb2c1d9bfece8ee0074fb52bd347bc96b7"), looks := true }, kinds := [], alts := [], laidByText := true, laidKinds := [.data, .data, .data, .data], laidTests := true, laidLooks := .later }
def PromptUptoCardSaid : Prop := Claim7.holds Tryz.pinned (.plain (OpenSpec.upto promptSpec)) promptUptoCard

/-- THE SECOND FORM's CARD OF 'ribbonkeep.Firm'. -/
def firmUptoCard : Claim7 := { stood := { row := firmUptoRow, standIns := [], harness := (true, "93209e27e057bc01aae0948a85374bfb2c1d9bfece8ee0074fb52bd347bc96b7"), looks := true }, kinds := [], alts := [], laidByText := true, laidKinds := [.data, .data, .data, .data], laidTests := true, laidLooks := .later }
def FirmUptoCardSaid : Prop := Claim7.holds Tryz.pinned (.plain (OpenSpec.upto firmSpec)) firmUptoCard

/-- THE SECOND FORM's CARD OF 'ribbonkeep.Apart'. -/
def apartUptoCard : Claim7 := { stood := { row := apartUptoRow, standIns := [], harness := (true, "93209e27e057bc01aae0948a85374bfb2c1d9bfece8ee0074fb52bd347bc96b7"), looks := true }, kinds := [], alts := [], laidByText := true, laidKinds := [.data, .data, .data, .data], laidTests := true, laidLooks := .later }
def ApartUptoCardSaid : Prop := Claim7.holds Tryz.pinned (.plain (OpenSpec.upto apartSpec)) apartUptoCard
end Rows
end Go.Proofs.YtiahkfoojjpaaaaGreatDoor
