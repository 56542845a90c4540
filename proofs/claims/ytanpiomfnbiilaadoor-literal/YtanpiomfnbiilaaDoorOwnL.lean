/- Whatever the input is, the law on texts that are found as they stand returns true. Its condition: the table of the classes' names is as the program's text lays it, and the card ties that to the text. -/
import Derived.Test.YtanpiomfnbiilaaDoorLE
import Derived.Test.YtanpiomfnbiilaaDoorTie
import Derived.Test.YtanpiomfnbiilaaDoorCards
import Derived.SevenTiedAt
namespace Go.Proofs.YtanpiomfnbiilaaDoor
open Go

theorem literal_card : Rows.LiteralCardSaid :=
  Claim7.holds_tied_plain_at .later [] [.data] true (true, "4e3fe4e5d0283e2c7e9f72b87a7db5b5c2014ddfbd4d5077fe89b89153b18cb7") true
    literal_holds (fun _ h => by cases h) (by kernel_rfl) (fun _ h => by cases h) literal_row_tie rfl ⟨rfl, rfl⟩ (by kernel_rfl) rfl
    (fun f fn hf hfn => by
      obtain rfl : f = 3 := Option.some.inj ((show Tryd.prog.funcNamed "ribbon/ribbonkeep.Literal" = some 3 by kernel_rfl).symm.trans hf) |>.symm
      obtain rfl : fn = Tryd.f3 := (Option.some.inj ((Tryd.func3).symm.trans hfn)).symm
      exact ⟨by kernel_rfl, fun j t ht => by
        rw [Tryd.params3] at ht
        have hm : t ∈ [9, 3, 3, 9] := by simpa using Array.mem_of_getElem? ht
        have hall : ([9, 3, 3, 9].all fun u => !Tryd.prog.wantsStandIn u) = true := by kernel_rfl
        exact (show Tryd.prog.wantsStandIn t = false by simpa using List.all_eq_true.1 hall t hm)⟩)
    (by kernel_rfl)
#print axioms literal_card
end Go.Proofs.YtanpiomfnbiilaaDoor
