/- Whatever script and raw numbers there are, the law on what is told as soon as it can be returns true: behind each line all is told that would be told if the input ended there, or, where a script must know what is behind a line, what would be told of the lines ahead if there were one more. Its condition: the tables that the program's text lays are as it lays them, and the card ties that to the text. -/
import Derived.Test.YtiahkfoojjpaaaaGreatDoorW51
import Derived.Test.YtiahkfoojjpaaaaGreatDoorW42
import Derived.Test.YtiahkfoojjpaaaaGreatDoorTie
import Derived.Test.YtiahkfoojjpaaaaGreatDoorCards
import Derived.SevenTiedAt
namespace Go.Proofs.YtiahkfoojjpaaaaGreatDoor
open Go.ChangeShapes Go.WideShapes Go.ChangeAt Go.RowKit Go.ChangeMaps

set_option maxRecDepth 100000 in
theorem tp (os : Os) (started : os.Started) (H : Type) (enc : TypeId × Value -> H) :
    ReturnsInHanded {} Tryz.checked os 5 .any (fun w args => (Rows.promptSpec.pre enc Tryz.prog Tryz.f5 Rows.promptRow.domain false w args /\ laidMetH Tryz.prog Aa w) /\ sizedMet enc Tryz.prog Tryz.f5 (OpenSpec.ofChange Rows.promptSpec) false w args)
      (Rows.promptSpec.post enc Tryz.prog Tryz.f5 false true false false) := by
  refine returnsInHanded_of_change_and (C := Tryz.checked) (X := fun w _ => laidMetH Tryz.prog Aa w) (fun _ _ _ hh h => h.of_heap hh) own0 started (by kernel_rfl) Tryz.func5
    (ChangeSpec.witness_shaped (enc := enc) (C := Tryz.checked) (os := os) (X := fun w _ => laidMetH Tryz.prog Aa w) false (World.laidAll Tryz.prog os Aa) #[.string ⟨#[]⟩, .slice none 0 0] 8 (World.laidAll_os _ _ _)
      (World.shaped_of_ZipB (by kernel_rfl) (by kernel_rfl)) (by kernel_rfl) (by kernel_rfl) (by kernel_rfl)
      (by rw [MakeChecks.laidMetH_plain _ _ _ (by kernel_rfl)]; exact laidMet_laidAll _ (by kernel_rfl) (by kernel_rfl))) ?_
  intro W base args ds gs before hval0 hW _ hsz hL _;have hval : ∀ (j : Nat) t v, (Tryz.f5).params[j]? = some t -> args[j]? = some v -> Value.okWide Tryz.prog W .any base t v := hval0;have us : Tryz.prog.underlying 9 = some .string := by kernel_rfl
  have hW' := hW;obtain ⟨p, q, hA0, hV, rfl, _, _⟩ := hW;have hA : DataW.TrodAll enc Tryz.prog W 0 (fun _ => true) true (Tryz.f5).params.toList args.toList ds p := hA0;have hsz' : (DataW.weightsEach Tryz.prog ((Tryz.f5).params.toList ++ Rows.promptSpec.plain.varTypes Tryz.prog) (ds ++ gs)).all (· <= reachBytes) = true := hsz;rw [Tryz.params5] at hA hval hsz';obtain ⟨v0, v1, d0, d1, p0, p1, rfl, rfl, rfl, h0, h1⟩ := trodAll_two hA;obtain ⟨rfl, rfl⟩ := trodVars_none hV;obtain ⟨s0, rfl, rfl, rfl, w0⟩ := open_string us (hval 0 9 v0 rfl rfl) h0;obtain ⟨A0, n0, c0, z0, rfl, l0, N0⟩ := nums_of (hval 1 35 v1 rfl rfl) h1;clear hA0 hval0 hsz hsz';simp only [Oy] at hW';have hlt : ∀ x ∈ p1, x.block < W.heap.size := fun x hx => by simpa using hW'.lt x (by simp [hx])
  have main := DQ s0 A0 n0 c0 z0 W l0 N0 (nm_ofF hL) (pow_of hL);refine main.mono fun e W' ⟨he, hk⟩ => ?_;subst he;have k1 := Below.trod Tryz.LC (by kernel_rfl) (of_decide_eq_true (by kernel_rfl)) h1 hk.below (fun x hx => hlt x hx);exact ⟨_, rfl, ⟨_, _, _, [], _, [], hW', trodAll_mk1 (shut_bool Tryz.underlying4 _), trodAll_mk2 (shut_string us w0) k1, rfl, hk.below.frame _, fun h => by cases h⟩⟩

theorem xy : Rows.PromptSaid :=
  OpenClaim.holds_of_wide 5 Tryz.f5 rfl rfl rfl rfl rfl rfl rfl ⟨rfl, rfl, rfl, rfl, rfl⟩ rfl rfl rfl rfl rfl (by kernel_rfl) Tryz.func5 (by kernel_rfl)
    (of_decide_eq_true (by kernel_rfl)) (by unfold Func.isWrapper; first | (rw [Oa (by decide +kernel)]; kernel_rfl) | (rw [N7 (by decide +kernel)]; exact ⟨rfl, rfl⟩))
    (fun os started H enc _ => tp os started H enc)
end Go.Proofs.YtiahkfoojjpaaaaGreatDoor

namespace Go.Proofs.YtiahkfoojjpaaaaGreatDoor
open Go

theorem prompt_card : Rows.PromptCardSaid :=
  Claim7.holds_tied_plain_at .later [] [.data, .data, .data, .data] true (true, "93209e27e057bc01aae0948a85374bfb2c1d9bfece8ee0074fb52bd347bc96b7") true
    xy (fun _ h => by cases h) (by kernel_rfl) (fun _ h => by cases h) prompt_row_tie rfl ⟨rfl, rfl⟩ (by kernel_rfl) rfl
    (fun f fn hf hfn => by
      obtain rfl : f = 5 := Option.some.inj ((show Tryz.prog.funcNamed "ribbon/ribbonkeep.Prompt" = some 5 by kernel_rfl).symm.trans hf) |>.symm
      obtain rfl : fn = Tryz.f5 := (Option.some.inj ((Tryz.func5).symm.trans hfn)).symm
      exact ⟨by kernel_rfl, fun j t ht => by
        rw [Tryz.params5] at ht;have hm : t ∈ [9, 35] := by simpa using Array.mem_of_getElem? ht
        have hall : ([9, 35].all fun u => !Tryz.prog.wantsStandIn u) = true := by kernel_rfl
        exact (show Tryz.prog.wantsStandIn t = false by simpa using List.all_eq_true.1 hall t hm)⟩)
    (by kernel_rfl)
#print axioms prompt_card
end Go.Proofs.YtiahkfoojjpaaaaGreatDoor
