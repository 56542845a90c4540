/-
  DERIVED. GIVEN WITH THE SEED: THE CARDS: each row of YtanpiomfnbiilaaDoorRows.lean that lists a variable, with what it lists TIED to the program's text (the seventh form; the later family's looks); each row that meets fmt, with fmt's text TOLD by the authors' own Lean function (tested against real Go, not proved from fmt's source: count such statements apart). THE CARD IS WHAT COUNTS. Prove the row's statement (the work); the ties are given (YtanpiomfnbiilaaDoorTie.lean); close each card by the builder's one call (the guide's Derived/Test/ToyasCard.lean, 'card_holds'). Laid BY PROGRAM, IN A SANDBOX (cutbox-door.mjs). By AI agents, Wed Nov 11 2026. No macro, syntax, notation, axiom, sorry.
-/
import Derived.Test.YtanpiomfnbiilaaDoorRows
import GoSem.ClaimSeven
namespace Go.Proofs.YtanpiomfnbiilaaDoor
namespace Rows

/-- THE TIED CARD OF 'ribbonkeep.Literal'. -/
def literalCard : Claim7 := { stood := { row := literalRow, standIns := [], harness := (true, "4e3fe4e5d0283e2c7e9f72b87a7db5b5c2014ddfbd4d5077fe89b89153b18cb7"), looks := true }, kinds := [], alts := [], laidByText := true, laidKinds := [.data], laidTests := true, laidLooks := .later }
def LiteralCardSaid : Prop := Claim7.holds Tryd.pinned (.plain (OpenSpec.ofChange literalSpec)) literalCard

/-- THE TIED CARD OF 'ribbonkeep.Classes'. -/
def classesCard : Claim7 := { stood := { row := classesRow, standIns := [], harness := (true, "4e3fe4e5d0283e2c7e9f72b87a7db5b5c2014ddfbd4d5077fe89b89153b18cb7"), looks := true }, kinds := [], alts := [], laidByText := true, laidKinds := [.data], laidTests := true, laidLooks := .later }
def ClassesCardSaid : Prop := Claim7.holds Tryd.pinned (.plain (OpenSpec.ofChange classesSpec)) classesCard

/-- THE TIED CARD OF 'ribbonkeep.Longest'. -/
def longestCard : Claim7 := { stood := { row := longestRow, standIns := [], harness := (true, "4e3fe4e5d0283e2c7e9f72b87a7db5b5c2014ddfbd4d5077fe89b89153b18cb7"), looks := true }, kinds := [], alts := [], laidByText := true, laidKinds := [.data], laidTests := true, laidLooks := .later }
def LongestCardSaid : Prop := Claim7.holds Tryd.pinned (.plain (OpenSpec.ofChange longestSpec)) longestCard

/-- THE TIED CARD OF 'ribbonkeep.Repeats'. -/
def repeatsCard : Claim7 := { stood := { row := repeatsRow, standIns := [], harness := (true, "4e3fe4e5d0283e2c7e9f72b87a7db5b5c2014ddfbd4d5077fe89b89153b18cb7"), looks := true }, kinds := [], alts := [], laidByText := true, laidKinds := [.data], laidTests := true, laidLooks := .later }
def RepeatsCardSaid : Prop := Claim7.holds Tryd.pinned (.plain (OpenSpec.ofChange repeatsSpec)) repeatsCard

/-- THE SECOND FORM's CARD OF 'ribbonkeep.Literal'. -/
def literalUptoCard : Claim7 := { stood := { row := literalUptoRow, standIns := [], harness := (true, "4e3fe4e5d0283e2c7e9f72b87a7db5b5c2014ddfbd4d5077fe89b89153b18cb7"), looks := true }, kinds := [], alts := [], laidByText := true, laidKinds := [.data], laidTests := true, laidLooks := .later }
def LiteralUptoCardSaid : Prop := Claim7.holds Tryd.pinned (.plain (OpenSpec.upto literalSpec)) literalUptoCard

/-- THE SECOND FORM's CARD OF 'ribbonkeep.Classes'. -/
def classesUptoCard : Claim7 := { stood := { row := classesUptoRow, standIns := [], harness := (true, "4e3fe4e5d0283e2c7e9f72b87a7db5b5c2014ddfbd4d5077fe89b89153b18cb7"), looks := true }, kinds := [], alts := [], laidByText := true, laidKinds := [.data], laidTests := true, laidLooks := .later }
def ClassesUptoCardSaid : Prop := Claim7.holds Tryd.pinned (.plain (OpenSpec.upto classesSpec)) classesUptoCard

/-- THE SECOND FORM's CARD OF 'ribbonkeep.Longest'. -/
def longestUptoCard : Claim7 := { stood := { row := longestUptoRow, standIns := [], harness := (true, "4e3fe4e5d0283e2c7e9f72b87a7db5b5c2014ddfbd4d5077fe89b89153b18cb7"), looks := true }, kinds := [], alts := [], laidByText := true, laidKinds := [.data], laidTests := true, laidLooks := .later }
def LongestUptoCardSaid : Prop := Claim7.holds Tryd.pinned (.plain (OpenSpec.upto longestSpec)) longestUptoCard

/-- THE SECOND FORM's CARD OF 'ribbonkeep.Repeats'. -/
def repeatsUptoCard : Claim7 := { stood := { row := repeatsUptoRow, standIns := [], harness := (true, "4e3fe4e5d0283e2c7e9f72b87a7db5b5c2014ddfbd4d5077fe89b89153b18cb7"), looks := true }, kinds := [], alts := [], laidByText := true, laidKinds := [.data], laidTests := true, laidLooks := .later }
def RepeatsUptoCardSaid : Prop := Claim7.holds Tryd.pinned (.plain (OpenSpec.upto repeatsSpec)) repeatsUptoCard
end Rows
end Go.Proofs.YtanpiomfnbiilaaDoor
