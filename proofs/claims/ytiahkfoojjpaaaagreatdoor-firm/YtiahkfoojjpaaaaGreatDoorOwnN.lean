/- Whatever two numbers there are, the law on what is refused returns true: patterns and scripts that are none, each with its error and its place; limits of lines, spaces, steps and what is told. Its condition: the tables that the program's text lays are as it lays them, and the card ties that to the text. -/
import Derived.Test.YtiahkfoojjpaaaaGreatDoorT51
import Derived.Test.YtiahkfoojjpaaaaGreatDoorTie
import Derived.Test.YtiahkfoojjpaaaaGreatDoorCards
namespace Go.Proofs.YtiahkfoojjpaaaaGreatDoor
open Go.ChangeShapes Go.WideShapes Go.ChangeAt Go.RowKit Go.ChangeMaps

set_option maxRecDepth 100000 in
theorem zI (os : Os) (started : os.Started) (H : Type) (enc : TypeId × Value -> H) :
    ReturnsInHanded {} Tryz.checked os 6 .any (fun w args => (Rows.firmSpec.pre enc Tryz.prog Tryz.f6 Rows.firmRow.domain false w args /\ laidMetH Tryz.prog zg w) /\ sizedMet enc Tryz.prog Tryz.f6 (OpenSpec.ofChange Rows.firmSpec) false w args)
      (Rows.firmSpec.post enc Tryz.prog Tryz.f6 false true false false) := by
  refine returnsInHanded_of_change_and (C := Tryz.checked) (X := fun w _ => laidMetH Tryz.prog zg w) (fun _ _ _ hh h => h.of_heap hh) own0 started (by kernel_rfl) Tryz.func6
    (ChangeSpec.witness_shaped (enc := enc) (C := Tryz.checked) (os := os) (X := fun w _ => laidMetH Tryz.prog zg w) false (World.laidAll Tryz.prog os zg) #[.int .i64 0, .int .i64 0] 8 (World.laidAll_os _ _ _)
      (World.shaped_of_ZipB (by kernel_rfl) (by kernel_rfl)) (by kernel_rfl) (by kernel_rfl) (by kernel_rfl)
      (by rw [MakeChecks.laidMetH_plain _ _ _ (by kernel_rfl)]; exact laidMet_laidAll _ (by kernel_rfl) (by kernel_rfl))) ?_
  intro W base args ds gs before hval0 hW _ hsz hL _;have hval : ∀ (j : Nat) t v, (Tryz.f6).params[j]? = some t -> args[j]? = some v -> Value.okWide Tryz.prog W .any base t v := hval0;have us : Tryz.prog.underlying 9 = some .string := by kernel_rfl
  have hW' := hW;obtain ⟨p, q, hA0, hV, rfl, _, _⟩ := hW;have hA : DataW.TrodAll enc Tryz.prog W 0 (fun _ => true) true (Tryz.f6).params.toList args.toList ds p := hA0;have hsz' : (DataW.weightsEach Tryz.prog ((Tryz.f6).params.toList ++ Rows.firmSpec.plain.varTypes Tryz.prog) (ds ++ gs)).all (· <= reachBytes) = true := hsz;rw [Tryz.params6] at hA hval hsz';obtain ⟨v0, v1, d0, d1, p0, p1, rfl, rfl, rfl, h0, h1⟩ := trodAll_two hA;obtain ⟨rfl, rfl⟩ := trodVars_none hV;obtain ⟨a0, rfl, rfl, rfl, w0⟩ := open_int Tryz.underlying3 (hval 0 3 v0 rfl rfl) h0;obtain ⟨a1, rfl, rfl, rfl, w1⟩ := open_int Tryz.underlying3 (hval 1 3 v1 rfl rfl) h1;clear hA0 hval0 hsz hsz';simp only [OM] at hW';have b0 := wf_i64 w0;have b1 := wf_i64 w1;have main := Lk a0 a1 b0.1 b0.2 b1.1 b1.2 W (nm_ofF hL) (pow_of hL);refine main.mono fun e W' ⟨he, hk⟩ => ?_;subst he;exact ⟨_, rfl, ⟨_, _, _, [], _, [], hW', trodAll_mk1 (shut_bool Tryz.underlying4 _), trodAll_mk2 (shut_int Tryz.underlying3 w0) (shut_int Tryz.underlying3 w1), rfl, hk.below.frame _, fun h => by cases h⟩⟩

theorem DE : Rows.FirmSaid :=
  OpenClaim.holds_of_wide 6 Tryz.f6 rfl rfl rfl rfl rfl rfl rfl ⟨rfl, rfl, rfl, rfl, rfl⟩ rfl rfl rfl rfl rfl (by kernel_rfl) Tryz.func6 (by kernel_rfl)
    (of_decide_eq_true (by kernel_rfl)) (by unfold Func.isWrapper; first | (rw [Ny (by decide +kernel)]; kernel_rfl) | (rw [Nr (by decide +kernel)]; exact ⟨rfl, rfl⟩))
    (fun os started H enc _ => zI os started H enc)
end Go.Proofs.YtiahkfoojjpaaaaGreatDoor

namespace Go.Proofs.YtiahkfoojjpaaaaGreatDoor
open Go

theorem firm_card : Rows.FirmCardSaid :=
  Claim7.holds_tied_plain_at .later [] [.data, .data, .data, .data] true (true, "93209e27e057bc01aae0948a85374bfb2c1d9bfece8ee0074fb52bd347bc96b7") true
    DE (fun _ h => by cases h) (by kernel_rfl) (fun _ h => by cases h) firm_row_tie rfl ⟨rfl, rfl⟩ (by kernel_rfl) rfl
    (fun f fn hf hfn => by
      obtain rfl : f = 6 := Option.some.inj ((show Tryz.prog.funcNamed "ribbon/ribbonkeep.Firm" = some 6 by kernel_rfl).symm.trans hf) |>.symm
      obtain rfl : fn = Tryz.f6 := (Option.some.inj ((Tryz.func6).symm.trans hfn)).symm
      exact ⟨by kernel_rfl, fun j t ht => by
        rw [Tryz.params6] at ht;have hm : t ∈ [3, 3] := by simpa using Array.mem_of_getElem? ht
        have hall : ([3, 3].all fun u => !Tryz.prog.wantsStandIn u) = true := by kernel_rfl
        exact (show Tryz.prog.wantsStandIn t = false by simpa using List.all_eq_true.1 hall t hm)⟩)
    (by kernel_rfl)
#print axioms firm_card
end Go.Proofs.YtiahkfoojjpaaaaGreatDoor
