/-
  DERIVED. GIVEN WITH THE SEED: THE CARDS: each row of YtnfglkdkmcocnaaGreatDoorRows.lean that lists a variable, with what it lists TIED to the program's text (the seventh form; the later family's looks); each row that meets fmt, with fmt's text TOLD by the authors' own Lean function (tested against real Go, not proved from fmt's source: count such statements apart). THE CARD IS WHAT COUNTS. Prove the row's statement (the work); the ties are given (YtnfglkdkmcocnaaGreatDoorTie.lean); close each card by the builder's one call (the guide's Derived/Test/ToyasCard.lean, 'card_holds'). Laid BY PROGRAM, IN A SANDBOX (cutbox-door.mjs). By AI agents, Wed Nov 11 2026. No macro, syntax, notation, axiom, sorry.
-/
import Derived.Test.YtnfglkdkmcocnaaGreatDoorRows
import GoSem.ClaimSeven
namespace Go.Proofs.YtnfglkdkmcocnaaGreatDoor
namespace Rows

/-- THE TIED CARD OF 'ribbonlaw.Matches'. -/
def matchesCard : Claim7 := { stood := { row := matchesRow, standIns := [], harness := (true, "1c9da1cae7e2316a87b6ade49f7f63a2b44a8a3abbd6c08cde99a0a07072813f"), looks := true }, kinds := [], alts := [], laidByText := true, laidKinds := [.data, .data, .data, .data], laidTests := true, laidLooks := .later }
def MatchesCardSaid : Prop := Claim7.holds Tryz.pinned (.plain (OpenSpec.ofChange matchesSpec)) matchesCard

/-- THE SECOND FORM's CARD OF 'ribbonlaw.Matches'. -/
def matchesUptoCard : Claim7 := { stood := { row := matchesUptoRow, standIns := [], harness := (true, "1c9da1cae7e2316a87b6ade49f7f63a2b44a8a3abbd6c08cde99a0a07072813f"), looks := true }, kinds := [], alts := [], laidByText := true, laidKinds := [.data, .data, .data, .data], laidTests := true, laidLooks := .later }
def MatchesUptoCardSaid : Prop := Claim7.holds Tryz.pinned (.plain (OpenSpec.upto matchesSpec)) matchesUptoCard
end Rows
end Go.Proofs.YtnfglkdkmcocnaaGreatDoor
