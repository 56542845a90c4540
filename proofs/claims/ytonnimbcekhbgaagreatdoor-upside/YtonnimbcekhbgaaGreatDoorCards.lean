/-
  DERIVED. GIVEN WITH THE SEED: THE CARDS: each row of YtonnimbcekhbgaaGreatDoorRows.lean that lists a variable, with what it lists TIED to the program's text (the seventh form; the later family's looks); each row that meets fmt, with fmt's text TOLD by the authors' own Lean function (tested against real Go, not proved from fmt's source: count such statements apart). THE CARD IS WHAT COUNTS. Prove the row's statement (the work); the ties are given (YtonnimbcekhbgaaGreatDoorTie.lean); close each card by the builder's one call (the guide's Derived/Test/ToyasCard.lean, 'card_holds'). Laid BY PROGRAM, IN A SANDBOX (cutbox-door.mjs). By AI agents, Wed Nov 11 2026. No macro, syntax, notation, axiom, sorry.
-/
import Derived.Test.YtonnimbcekhbgaaGreatDoorRows
import GoSem.ClaimSeven
namespace Go.Proofs.YtonnimbcekhbgaaGreatDoor
namespace Rows

/-- THE TIED CARD OF 'ribbonkeep.Told'. -/
def toldCard : Claim7 := { stood := { row := toldRow, standIns := [], harness := (true, "8d9eab25878452ba482e891873af71a4a5cf7f0666f863a1c2ff36d9af94b690"), looks := true }, kinds := [], alts := [], laidByText := true, laidKinds := [.data, .data, .data, .data], laidTests := true, laidLooks := .later }
def ToldCardSaid : Prop := Claim7.holds Tryz.pinned (.plain (OpenSpec.ofChange toldSpec)) toldCard

/-- THE TIED CARD OF 'ribbonkeep.Ranged'. -/
def rangedCard : Claim7 := { stood := { row := rangedRow, standIns := [], harness := (true, "8d9eab25878452ba482e891873af71a4a5cf7f0666f863a1c2ff36d9af94b690"), looks := true }, kinds := [], alts := [], laidByText := true, laidKinds := [.data, .data, .data, .data], laidTests := true, laidLooks := .later }
def RangedCardSaid : Prop := Claim7.holds Tryz.pinned (.plain (OpenSpec.ofChange rangedSpec)) rangedCard

/-- THE TIED CARD OF 'ribbonkeep.Replaced'. -/
def replacedCard : Claim7 := { stood := { row := replacedRow, standIns := [], harness := (true, "8d9eab25878452ba482e891873af71a4a5cf7f0666f863a1c2ff36d9af94b690"), looks := true }, kinds := [], alts := [], laidByText := true, laidKinds := [.data, .data, .data, .data], laidTests := true, laidLooks := .later }
def ReplacedCardSaid : Prop := Claim7.holds Tryz.pinned (.plain (OpenSpec.ofChange replacedSpec)) replacedCard

/-- THE TIED CARD OF 'ribbonkeep.Turned'. -/
def turnedCard : Claim7 := { stood := { row := turnedRow, standIns := [], harness := (true, "8d9eab25878452ba482e891873af71a4a5cf7f0666f863a1c2ff36d9af94b690"), looks := true }, kinds := [], alts := [], laidByText := true, laidKinds := [.data, .data, .data, .data], laidTests := true, laidLooks := .later }
def TurnedCardSaid : Prop := Claim7.holds Tryz.pinned (.plain (OpenSpec.ofChange turnedSpec)) turnedCard

/-- THE TIED CARD OF 'ribbonkeep.Upside'. -/
def upsideCard : Claim7 := { stood := { row := upsideRow, standIns := [], harness := (true, "8d9eab25878452ba482e891873af71a4a5cf7f0666f863a1c2ff36d9af94b690"), looks := true }, kinds := [], alts := [], laidByText := true, laidKinds := [.data, .data, .data, .data], laidTests := true, laidLooks := .later }
def UpsideCardSaid : Prop := Claim7.holds Tryz.pinned (.plain (OpenSpec.ofChange upsideSpec)) upsideCard

/-- THE SECOND FORM's CARD OF 'ribbonkeep.Told'. -/
def toldUptoCard : Claim7 := { stood := { row := toldUptoRow, standIns := [], harness := (true, "8d9eab25878452ba482e891873af71a4a5cf7f0666f863a1c2ff36d9af94b690"), looks := true }, kinds := [], alts := [], laidByText := true, laidKinds := [.data, .data, .data, .data], laidTests := true, laidLooks := .later }
def ToldUptoCardSaid : Prop := Claim7.holds Tryz.pinned (.plain (OpenSpec.upto toldSpec)) toldUptoCard

/-- THE SECOND FORM's CARD OF 'ribbonkeep.Ranged'. -/
def rangedUptoCard : Claim7 := { stood := { row := rangedUptoRow, standIns := [], harness := (true, "8d9eab25878452ba482e891873af71a4a5cf7f0666f863a1c2ff36d9af94b690"), looks := true }, kinds := [], alts := [], laidByText := true, laidKinds := [.data, .data, .data, .data], laidTests := true, laidLooks := .later }
def RangedUptoCardSaid : Prop := Claim7.holds Tryz.pinned (.plain (OpenSpec.upto rangedSpec)) rangedUptoCard

/-- THE SECOND FORM's CARD OF 'ribbonkeep.Replaced'. -/
def replacedUptoCard : Claim7 := { stood := { row := replacedUptoRow, standIns := [], harness := (true, "8d9eab25878452ba482e891873af71a4a5cf7f0666f863a1c2ff36d9af94b690"), looks := true }, kinds := [], alts := [], laidByText := true, laidKinds := [.data, .data, .data, .data], laidTests := true, laidLooks := .later }
def ReplacedUptoCardSaid : Prop := Claim7.holds Tryz.pinned (.plain (OpenSpec.upto replacedSpec)) replacedUptoCard

/-- THE SECOND FORM's CARD OF 'ribbonkeep.Turned'. -/
def turnedUptoCard : Claim7 := { stood := { row := turnedUptoRow, standIns := [], harness := (true, "8d9eab25878452ba482e891873af71a4a5cf7f0666f863a1c2ff36d9af94b690"), looks := true }, kinds := [], alts := [], laidByText := true, laidKinds := [.data, .data, .data, .data], laidTests := true, laidLooks := .later }
def TurnedUptoCardSaid : Prop := Claim7.holds Tryz.pinned (.plain (OpenSpec.upto turnedSpec)) turnedUptoCard

/-- THE SECOND FORM's CARD OF 'ribbonkeep.Upside'. -/
def upsideUptoCard : Claim7 := { stood := { row := upsideUptoRow, standIns := [], harness := (true, "8d9eab25878452ba482e891873af71a4a5cf7f0666f863a1c2ff36d9af94b690"), looks := true }, kinds := [], alts := [], laidByText := true, laidKinds := [.data, .data, .data, .data], laidTests := true, laidLooks := .later }
def UpsideUptoCardSaid : Prop := Claim7.holds Tryz.pinned (.plain (OpenSpec.upto upsideSpec)) upsideUptoCard
end Rows
end Go.Proofs.YtonnimbcekhbgaaGreatDoor
