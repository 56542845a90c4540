/-
  NARROWER THAN 'FOR EVERY INPUT', by the rows' own cells (each row's printed sentence says how): Literal: laid · Classes: laid · Longest: laid · Repeats: laid.
  DERIVED. THE GIVEN ROWS OF THIS SEAT. 4 by the template 'for every input the law returns true; each argument reads behind the call as it read before'; 0 by the template 'total and deterministic' (their statements: YtanpiomfnbiilaaDoorTotals.lean).
  GIVEN WITH THE SEED: the statements are not yours to turn. If you find one false, say at which input.
  Laid BY PROGRAM, IN A SANDBOX (cutbox-rows.mjs): the forced cells as the released guide's own fill.sh prints them over the translation 44715f5d4fd06371… (all of the seat's roots in one cut). By AI agents, Wed Nov 11 2026. No macro, syntax, notation, axiom, sorry.
-/
import Derived.Test.YtanpiomfnbiilaaDoorChecked
import GoSem.Claim
import GoSem.ClaimJoined
import GoSem.ClaimMapViews
import Derived.JoinedTies
import Derived.KernelRfl
namespace Go.Proofs.YtanpiomfnbiilaaDoor
/- THE CELL 'sum', in the pinned program and in every row, IS THE sha256 OF THE DUMP (.gsa) THAT YtanpiomfnbiilaaDoorProg.lean LOADS. Nothing in Lean hashes anything: it is a label: what it is worth is what the hold of that sum in a sandbox is worth. -/
noncomputable def Tryd.pinned : Pinned := { name := "ytanpiomfnbiilaadoor", sum := "44715f5d4fd06371927c1771522209298a5a5155bd3f2ffb65d9196b64825966", checked := Tryd.checked }
namespace Rows
def none {H : Type} : Left H := { results := [], args := [] }

/- WHAT THE LISTED PACKAGE-LEVEL VARIABLES READ AS WHEN THE CALL BEGINS. Each datum BY PROGRAM (the guide's laid-datum.mjs) off the statement by which the dump's own 'gosem.cut.vars' lays the variable. In a bare row this is a premise. The card (YtanpiomfnbiilaaDoorCards.lean) ties it to the program's text. -/
def laid_ribbon_pattern_names {H : Type} : DataW H := .agg [.agg [.lit (.string [97, 108, 112, 104, 97]), .lit (.string [65, 90, 97, 122])], .agg [.lit (.string [100, 105, 103, 105, 116]), .lit (.string [48, 57])], .agg [.lit (.string [97, 108, 110, 117, 109]), .lit (.string [48, 57, 65, 90, 97, 122])], .agg [.lit (.string [117, 112, 112, 101, 114]), .lit (.string [65, 90])], .agg [.lit (.string [108, 111, 119, 101, 114]), .lit (.string [97, 122])], .agg [.lit (.string [115, 112, 97, 99, 101]), .lit (.string [9, 13, 32, 32])], .agg [.lit (.string [112, 117, 110, 99, 116]), .lit (.string [33, 47, 58, 64, 91, 96, 123, 126])]]

/-- 'ribbonkeep.Literal': WHATEVER THE INPUT: true; the input reads as it did. -/
def literalSpec : ChangeSpec := { name := "literal", fn := fun _ => fun
  | [d1, d2, d3, d4] => { results := [.lit (.bool true)], args := [d1, d2, d3, d4] }
  | _ => none }
def literalRow : OpenClaim := { program := "ytanpiomfnbiilaadoor", sum := "44715f5d4fd06371927c1771522209298a5a5155bd3f2ffb65d9196b64825966", func := "ribbon/ribbonkeep.Literal", spec := "literal", inPlace := ["internal/bytealg.IndexByteString"], unfollowed := true, recurses := true, named := ["ribbon/pattern.names"], apart := false, laid := [("ribbon/pattern.names", laid_ribbon_pattern_names)] }
def LiteralSaid : Prop := literalRow.holds Tryd.pinned (OpenSpec.ofChange literalSpec)

/-- ITS FALSE NEIGHBOUR: 'it returns false'. Refute it at one input. -/
def literalWrong : ChangeSpec := { name := "literal", fn := fun _ => fun
  | [d1, d2, d3, d4] => { results := [.lit (.bool false)], args := [d1, d2, d3, d4] }
  | _ => none }
def LiteralWrongFalsely : Prop := literalRow.holds Tryd.pinned (OpenSpec.ofChange literalWrong)

/-- 'ribbonkeep.Classes': WHATEVER THE INPUT: true; the input reads as it did. -/
def classesSpec : ChangeSpec := { name := "classes", fn := fun _ => fun
  | [d1, d2] => { results := [.lit (.bool true)], args := [d1, d2] }
  | _ => none }
def classesRow : OpenClaim := { program := "ytanpiomfnbiilaadoor", sum := "44715f5d4fd06371927c1771522209298a5a5155bd3f2ffb65d9196b64825966", func := "ribbon/ribbonkeep.Classes", spec := "classes", inPlace := ["internal/bytealg.IndexByteString"], unfollowed := true, recurses := true, named := ["ribbon/pattern.names"], apart := false, laid := [("ribbon/pattern.names", laid_ribbon_pattern_names)] }
def ClassesSaid : Prop := classesRow.holds Tryd.pinned (OpenSpec.ofChange classesSpec)

/-- ITS FALSE NEIGHBOUR: 'it returns false'. Refute it at one input. -/
def classesWrong : ChangeSpec := { name := "classes", fn := fun _ => fun
  | [d1, d2] => { results := [.lit (.bool false)], args := [d1, d2] }
  | _ => none }
def ClassesWrongFalsely : Prop := classesRow.holds Tryd.pinned (OpenSpec.ofChange classesWrong)

/-- 'ribbonkeep.Longest': WHATEVER THE INPUT: true; the input reads as it did. -/
def longestSpec : ChangeSpec := { name := "longest", fn := fun _ => fun
  | [d1, d2] => { results := [.lit (.bool true)], args := [d1, d2] }
  | _ => none }
def longestRow : OpenClaim := { program := "ytanpiomfnbiilaadoor", sum := "44715f5d4fd06371927c1771522209298a5a5155bd3f2ffb65d9196b64825966", func := "ribbon/ribbonkeep.Longest", spec := "longest", inPlace := ["internal/bytealg.IndexByteString"], unfollowed := true, recurses := true, named := ["ribbon/pattern.names"], apart := false, laid := [("ribbon/pattern.names", laid_ribbon_pattern_names)] }
def LongestSaid : Prop := longestRow.holds Tryd.pinned (OpenSpec.ofChange longestSpec)

/-- ITS FALSE NEIGHBOUR: 'it returns false'. Refute it at one input. -/
def longestWrong : ChangeSpec := { name := "longest", fn := fun _ => fun
  | [d1, d2] => { results := [.lit (.bool false)], args := [d1, d2] }
  | _ => none }
def LongestWrongFalsely : Prop := longestRow.holds Tryd.pinned (OpenSpec.ofChange longestWrong)

/-- 'ribbonkeep.Repeats': WHATEVER THE INPUT: true; the input reads as it did. -/
def repeatsSpec : ChangeSpec := { name := "repeats", fn := fun _ => fun
  | [d1, d2, d3] => { results := [.lit (.bool true)], args := [d1, d2, d3] }
  | _ => none }
def repeatsRow : OpenClaim := { program := "ytanpiomfnbiilaadoor", sum := "44715f5d4fd06371927c1771522209298a5a5155bd3f2ffb65d9196b64825966", func := "ribbon/ribbonkeep.Repeats", spec := "repeats", inPlace := ["internal/bytealg.IndexByteString"], unfollowed := true, recurses := true, named := ["ribbon/pattern.names"], apart := false, laid := [("ribbon/pattern.names", laid_ribbon_pattern_names)] }
def RepeatsSaid : Prop := repeatsRow.holds Tryd.pinned (OpenSpec.ofChange repeatsSpec)

/-- ITS FALSE NEIGHBOUR: 'it returns false'. Refute it at one input. -/
def repeatsWrong : ChangeSpec := { name := "repeats", fn := fun _ => fun
  | [d1, d2, d3] => { results := [.lit (.bool false)], args := [d1, d2, d3] }
  | _ => none }
def RepeatsWrongFalsely : Prop := repeatsRow.holds Tryd.pinned (OpenSpec.ofChange repeatsWrong)

/- THE SECOND FORM. 'bulk': how many values and letters a reading holds, each counted each time it is reached (what is shared counts as often as it is met; a slice's spare places count too). A statement '..UptoSaid' is the law's where the arguments, and the package variables that the reading takes, are together of bulk at most 1048576: NARROWER than '..Said'. Prove '..Said' where nothing that the law and all that it calls make is longer than what came in: it says more and counts as full. Else prove '..UptoSaid'. A law counts once. -/
mutual
def uptoBulk {H : Type} : DataW H → Nat
  | .lit (.string bytes) => bytes.length + 1
  | .lit _ => 1
  | .nil => 1
  | .ptr d => uptoBulk d + 1
  | .slice elems spare => uptoBulkAll elems + uptoBulkAll spare + 1
  | .agg parts => uptoBulkAll parts + 1
  | .iface _ d => uptoBulk d + 1
  | .map entries => uptoBulkEntries entries + 1
  | .held _ => 1
def uptoBulkAll {H : Type} : List (DataW H) → Nat
  | [] => 0
  | d :: r => uptoBulk d + uptoBulkAll r
def uptoBulkEntries {H : Type} : List (Lit × DataW H) → Nat
  | [] => 0
  | x :: r => uptoBulkEntry x + uptoBulkEntries r
def uptoBulkEntry {H : Type} : Lit × DataW H → Nat
  | (.string bytes, d) => bytes.length + uptoBulk d + 1
  | (_, d) => uptoBulk d + 1
 end
def uptoSmall : (H : Type) → List (DataW H) → Bool := fun _ ds => decide (uptoBulkAll ds ≤ 1048576)
def OpenSpec.upto (s : _root_.Go.ChangeSpec) : _root_.Go.OpenSpec := { _root_.Go.OpenSpec.ofChange s with cond := some uptoSmall }

/-- 'ribbonkeep.Literal', WHERE WHAT IT READS IS OF BULK AT MOST 1048576: true; the input reads as it did. -/
def literalUptoRow : OpenClaim := { program := "ytanpiomfnbiilaadoor", sum := "44715f5d4fd06371927c1771522209298a5a5155bd3f2ffb65d9196b64825966", func := "ribbon/ribbonkeep.Literal", spec := "literal", inPlace := ["internal/bytealg.IndexByteString"], unfollowed := true, recurses := true, named := ["ribbon/pattern.names"], apart := false, laid := [("ribbon/pattern.names", laid_ribbon_pattern_names)], narrowed := true }
def LiteralUptoSaid : Prop := literalUptoRow.holds Tryd.pinned (OpenSpec.upto literalSpec)

/-- 'ribbonkeep.Classes', WHERE WHAT IT READS IS OF BULK AT MOST 1048576: true; the input reads as it did. -/
def classesUptoRow : OpenClaim := { program := "ytanpiomfnbiilaadoor", sum := "44715f5d4fd06371927c1771522209298a5a5155bd3f2ffb65d9196b64825966", func := "ribbon/ribbonkeep.Classes", spec := "classes", inPlace := ["internal/bytealg.IndexByteString"], unfollowed := true, recurses := true, named := ["ribbon/pattern.names"], apart := false, laid := [("ribbon/pattern.names", laid_ribbon_pattern_names)], narrowed := true }
def ClassesUptoSaid : Prop := classesUptoRow.holds Tryd.pinned (OpenSpec.upto classesSpec)

/-- 'ribbonkeep.Longest', WHERE WHAT IT READS IS OF BULK AT MOST 1048576: true; the input reads as it did. -/
def longestUptoRow : OpenClaim := { program := "ytanpiomfnbiilaadoor", sum := "44715f5d4fd06371927c1771522209298a5a5155bd3f2ffb65d9196b64825966", func := "ribbon/ribbonkeep.Longest", spec := "longest", inPlace := ["internal/bytealg.IndexByteString"], unfollowed := true, recurses := true, named := ["ribbon/pattern.names"], apart := false, laid := [("ribbon/pattern.names", laid_ribbon_pattern_names)], narrowed := true }
def LongestUptoSaid : Prop := longestUptoRow.holds Tryd.pinned (OpenSpec.upto longestSpec)

/-- 'ribbonkeep.Repeats', WHERE WHAT IT READS IS OF BULK AT MOST 1048576: true; the input reads as it did. -/
def repeatsUptoRow : OpenClaim := { program := "ytanpiomfnbiilaadoor", sum := "44715f5d4fd06371927c1771522209298a5a5155bd3f2ffb65d9196b64825966", func := "ribbon/ribbonkeep.Repeats", spec := "repeats", inPlace := ["internal/bytealg.IndexByteString"], unfollowed := true, recurses := true, named := ["ribbon/pattern.names"], apart := false, laid := [("ribbon/pattern.names", laid_ribbon_pattern_names)], narrowed := true }
def RepeatsUptoSaid : Prop := repeatsUptoRow.holds Tryd.pinned (OpenSpec.upto repeatsSpec)

end Rows
end Go.Proofs.YtanpiomfnbiilaaDoor
