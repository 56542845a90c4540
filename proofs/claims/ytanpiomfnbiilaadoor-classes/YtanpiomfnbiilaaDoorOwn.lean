/- Whatever the two numbers are, the law on classes returns true: each byte that it asks is found in a class just when the class has it. Its condition: the table of the classes' names is as the program's text lays it, and the card ties that to the text. -/
import Derived.Test.YtanpiomfnbiilaaDoorZf
import Derived.Test.YtanpiomfnbiilaaDoorTie
import Derived.Test.YtanpiomfnbiilaaDoorCards
import Derived.SevenTiedAt
namespace Go.Proofs.YtanpiomfnbiilaaDoor
open Go

theorem classes_card : Rows.ClassesCardSaid :=
  Claim7.holds_tied_plain_at .later [] [.data] true (true, "4e3fe4e5d0283e2c7e9f72b87a7db5b5c2014ddfbd4d5077fe89b89153b18cb7") true
    classes_holds (fun _ h => by cases h) (by kernel_rfl) (fun _ h => by cases h) classes_row_tie rfl ⟨rfl, rfl⟩ (by kernel_rfl) rfl
    (fun f fn hf hfn => by
      obtain rfl : f = 4 := Option.some.inj ((show Tryd.prog.funcNamed "ribbon/ribbonkeep.Classes" = some 4 by kernel_rfl).symm.trans hf) |>.symm
      obtain rfl : fn = Tryd.f4 := (Option.some.inj ((Tryd.func4).symm.trans hfn)).symm
      exact ⟨by kernel_rfl, fun j t ht => by
        rw [Tryd.params4] at ht
        have hm : t ∈ [3, 3] := by simpa using Array.mem_of_getElem? ht
        have hall : ([3, 3].all fun u => !Tryd.prog.wantsStandIn u) = true := by kernel_rfl
        exact (show Tryd.prog.wantsStandIn t = false by simpa using List.all_eq_true.1 hall t hm)⟩)
    (by kernel_rfl)
#print axioms classes_card
end Go.Proofs.YtanpiomfnbiilaaDoor
