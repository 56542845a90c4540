/- Whatever script and input there are, the law on what is the same returns true: a script's text is read again as the same script, and does the same. Its condition: the tables that the program's text lays are as it lays them, and the card ties that to the text. -/
import Derived.Test.YtiahkfoojjpaaaaGreatDoorS51
import Derived.Test.YtiahkfoojjpaaaaGreatDoorTie
import Derived.Test.YtiahkfoojjpaaaaGreatDoorCards
namespace Go.Proofs.YtiahkfoojjpaaaaGreatDoor
open Go.ChangeShapes Go.WideShapes Go.ChangeAt Go.RowKit Go.ChangeMaps

set_option maxRecDepth 100000 in
theorem AJ(os : Os)(started : os.Started)(H : Type)(enc : TypeId × Value -> H):ReturnsInHanded {} Tryz.checked os 3 .any (fun w args => (Rows.sameSpec.pre enc Tryz.prog Tryz.f3 Rows.sameRow.domain false w args /\ laidMetH Tryz.prog Bn w) /\ sizedMet enc Tryz.prog Tryz.f3 (OpenSpec.ofChange Rows.sameSpec) false w args) (Rows.sameSpec.post enc Tryz.prog Tryz.f3 false true false false) := by
  refine returnsInHanded_of_change_and (C := Tryz.checked) (X := fun w _ => laidMetH Tryz.prog Bn w) (fun _ _ _ hh h => h.of_heap hh) own0 started (by kernel_rfl) Tryz.func3
    (ChangeSpec.witness_shaped (enc := enc) (C := Tryz.checked) (os := os) (X := fun w _ => laidMetH Tryz.prog Bn w) false (World.laidAll Tryz.prog os Bn) #[.string ⟨#[]⟩, .string ⟨#[]⟩] 8 (World.laidAll_os _ _ _)
      (World.shaped_of_ZipB (by kernel_rfl) (by kernel_rfl)) (by kernel_rfl) (by kernel_rfl) (by kernel_rfl)
      (by rw[MakeChecks.laidMetH_plain _ _ _ (by kernel_rfl)]; exact laidMet_laidAll _ (by kernel_rfl) (by kernel_rfl))) ?_
  intro W base args ds gs before hval0 hW _ hsz hL _;have hval : ∀(j : Nat) t v, (Tryz.f3).params[j]? = some t -> args[j]? = some v -> Value.okWide Tryz.prog W .any base t v := hval0;have us : Tryz.prog.underlying 9 = some .string := by kernel_rfl
  have hW' := hW;obtain⟨p, q, hA0, hV, rfl, _, _⟩ := hW;have hA : DataW.TrodAll enc Tryz.prog W 0 (fun _ => true) true (Tryz.f3).params.toList args.toList ds p := hA0;have hsz' : (DataW.weightsEach Tryz.prog ((Tryz.f3).params.toList ++ Rows.sameSpec.plain.varTypes Tryz.prog) (ds ++ gs)).all (· <= reachBytes) = true := hsz;rw[Tryz.params3] at hA hval hsz';obtain⟨v0, v1, d0, d1, p0, p1, rfl, rfl, rfl, h0, h1⟩ := trodAll_two hA;obtain⟨rfl, rfl⟩ := trodVars_none hV;obtain⟨s0, rfl, rfl, rfl, w0⟩ := open_string us (hval 0 9 v0 rfl rfl) h0;obtain⟨s1, rfl, rfl, rfl, w1⟩ := open_string us (hval 1 9 v1 rfl rfl) h1;have hlen : s1.data.toList.length <= 140737488355328 := by
    have hq : s1.data.toList.length <= reachBytes := by
      have := List.all_eq_true.1 hsz' s1.data.toList.length (by simp[DataW.weightsEach, DataW.weights]);exact of_decide_eq_true this
    have : reachBytes = 140737488351232 := rfl;omega
  clear hA0 hval0 hsz hsz';simp only[Ry] at hW';have main := MH s0 s1.data.toList W hlen (nm_ofF hL) (pow_of hL);rw[Ag] at main;refine main.mono fun e W' ⟨he, hk⟩ => ?_;subst he;exact⟨_, rfl, ⟨_, _, _, [], _, [], hW', trodAll_mk1 (shut_bool Tryz.underlying4 _), trodAll_mk2 (shut_string us w0) (shut_string us w1), rfl, hk.below.frame _, fun h => by cases h⟩⟩

theorem EZ:Rows.SameSaid :=
  OpenClaim.holds_of_wide 3 Tryz.f3 rfl rfl rfl rfl rfl rfl rfl ⟨rfl, rfl, rfl, rfl, rfl⟩ rfl rfl rfl rfl rfl (by kernel_rfl) Tryz.func3 (by kernel_rfl)
    (of_decide_eq_true (by kernel_rfl)) (by unfold Func.isWrapper; first|(rw[QB (by decide +kernel)]; kernel_rfl)|(rw[Qw (by decide +kernel)]; exact⟨rfl, rfl⟩))
    (fun os started H enc _ => AJ os started H enc)
end Go.Proofs.YtiahkfoojjpaaaaGreatDoor

namespace Go.Proofs.YtiahkfoojjpaaaaGreatDoor
open Go

theorem same_card:Rows.SameCardSaid :=
  Claim7.holds_tied_plain_at .later [] [.data, .data, .data, .data] true (true, "93209e27e057bc01aae0948a85374bfb2c1d9bfece8ee0074fb52bd347bc96b7") true
    EZ (fun _ h => by cases h) (by kernel_rfl) (fun _ h => by cases h) same_row_tie rfl ⟨rfl, rfl⟩ (by kernel_rfl) rfl
    (fun f fn hf hfn => by
      obtain rfl : f = 3 := Option.some.inj ((show Tryz.prog.funcNamed "ribbon/ribbonkeep.Same" = some 3 by kernel_rfl).symm.trans hf) |>.symm
      obtain rfl : fn = Tryz.f3 := (Option.some.inj ((Tryz.func3).symm.trans hfn)).symm
      exact⟨by kernel_rfl, fun j t ht => by
        rw[Tryz.params3] at ht;have hm : t ∈ [9, 9] := by simpa using Array.mem_of_getElem? ht
        have hall : ([9, 9].all fun u => !Tryz.prog.wantsStandIn u) = true := by kernel_rfl
        exact(show Tryz.prog.wantsStandIn t = false by simpa using List.all_eq_true.1 hall t hm)⟩)
    (by kernel_rfl)
#print axioms same_card
end Go.Proofs.YtiahkfoojjpaaaaGreatDoor
