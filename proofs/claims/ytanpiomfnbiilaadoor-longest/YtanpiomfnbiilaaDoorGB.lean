/- The finder: the pattern's end, and the instructions that a way goes on from at the same place. -/
import Derived.Test.YtanpiomfnbiilaaDoorGA
namespace Go.Proofs.YtanpiomfnbiilaaDoor
open Go.RowKit

/-- Notes with one place noted anew. -/
def nu (x : Nat → Int) (s : Nat) (v : Int) : Nat → Int := fun i => if i = s then v else x i

/-- What is left behind the pattern's end. -/
structure EndsF (f : Nat) (x : Nat → Int) (pl : Int) (w w' : World) : Prop where
  found : w'.cell? ⟨f, 7, none⟩ = some (.bool true)
  best : w'.rangeAt f 8 (nf (nu x 1 pl))
  cell : ∀ i, i < 7 → w'.cell? ⟨f, i, none⟩ = w.cell? ⟨f, i, none⟩
  free : ∀ i, w'.frozen? ⟨f, i, none⟩ = w.frozen? ⟨f, i, none⟩
  kept : Kp [f] w w'

/-- A note is a cell more that is written. -/
theorem note_cells {W : World} {b o s : Nat} {x : Nat → Int} {v : Int} (h : W.rangeAt b o (nf x)) (hs : s < 20) : (W.setCell ⟨b, o + s, none⟩ (.int .i64 v)).rangeAt b o (nf (nu x s v)) := by
  intro j u hu
  have hj : j < 20 := (List.getElem?_eq_some_iff.1 hu).1
  rw [nf_get _ j hj] at hu
  by_cases e : j = s
  · subst e
    rw [cell_same _ (h j _ (nf_get x j hj)), ← hu]
    simp [nu]
  · rw [cell_other _ (fun q => by injection q with _ q2 _; omega), h j _ (nf_get x j hj), ← hu]
    simp [nu, e]

set_option maxRecDepth 100000 in
set_option maxHeartbeats 2000000 in
theorem found_any {w : World} {f p t g n c a pl : Nat} {x : Nat → Int} {b7 : Bool}
    (c0 : w.cell? ⟨f, 0, none⟩ = some (.pointer (some ⟨p, 0, none⟩))) (c2 : w.cell? ⟨f, 2, none⟩ = some (.int .i64 pl)) (c7 : w.cell? ⟨f, 7, none⟩ = some (.bool b7))
    (hth : w.there f 8 20) (hfr : ∀ i, w.frozen? ⟨f, i, none⟩ = false)
    (p0 : w.cell? ⟨p, 0, none⟩ = some (.slice (some ⟨g, 0, none⟩) n c)) (t0 : w.cell? ⟨t, 0, none⟩ = some (.int .i64 a)) (hr : w.rangeAt t 2 (nf x)) (ha : a < n)
    (i0 : w.cell? ⟨g, a * 9, none⟩ = some (.int .i64 6)) :
    Calls Tryd.prog 38 #[.pointer (some ⟨f, 0, none⟩), .pointer (some ⟨t, 0, none⟩)] w fun e w' => e = .returned (.bool false) ∧ EndsF f x pl w w' := by
  have HR := hid hr
  have HT := hid hth
  have f7 := hfr 7
  have HF := hid hfr
  clear hr hth hfr
  go_enter Tryd.func38, Tryd.ntmps38
  go_wp2
  go_quiet (fail)
  go_wp2_with (first | (refine wpList_load_mid rfl 79 (.tmp 153) rfl t 2 rfl (nf x) _ HR.out Tryd.underlying79 rfl Tryd.szNotes ?_) | (refine wpList_store_mid rfl 79 (.tmp 158) (.tmp 154) rfl f 8 (nf x).toArray rfl rfl (there_seven HT.out _ _) Tryd.szNotes (nf_all x) ?_))
  obtain ⟨W, hW⟩ : ∃ W : World, W = ((w.drewN nq).setCell ⟨f, 7, none⟩ (.bool true)).setCells f 8 (nf x) := ⟨_, rfl⟩
  rw [← hW]
  have hth0 := there_seven HT.out (.bool true) nq
  have hr : W.rangeAt f 8 (nf x) := by rw [hW]; exact World.rangeAt_setCells_same _ f 8 (nf x) hth0
  have b0 : W.cell? ⟨f, 8, none⟩ = some (.int .i64 (x 0)) := hr 0 _ rfl
  have b1 : W.cell? ⟨f, 9, none⟩ = some (.int .i64 (x 1)) := hr 1 _ rfl
  have hcell : ∀ i, i < 7 → W.cell? ⟨f, i, none⟩ = w.cell? ⟨f, i, none⟩ := fun i hi => by
    rw [hW, World.cell?_setCells_out f _ 8 _ _ (fun _ _ => .inl (by show i < 8; omega)), cell_other _ (fun e => by injection e with _ e2 _; omega)]; rfl
  have h7 : W.cell? ⟨f, 7, none⟩ = some (.bool true) := by
    rw [hW, World.cell?_setCells_out f _ 8 _ _ (fun _ _ => .inl (by show 7 < 8; omega))]; exact cell_same (w := w.drewN nq) _ c7
  have hfz : ∀ i, W.frozen? ⟨f, i, none⟩ = w.frozen? ⟨f, i, none⟩ := fun i => by rw [hW, World.frozen?_setCells]; simp
  have kW : Kp [f] w W := by rw [hW]; exact (Kp.drewN _ _ _).trans ((Kp.setCell _ _ (by simp)).trans (Kp.setCells (by simp) _ _ _))
  have e2 := (hcell 2 (by omega)).trans c2
  have g9 := (hfz 9).trans (HF.out 9)
  have H1 := hid hcell
  have H2 := hid hfz
  have H3 := hid h7
  have H4 := hid b0
  have H5 := hid hr
  clear hW hr hcell hfz h7 b0 c0 c2 c7 p0 t0 i0 f7 hth0
  go_region
  go_wp2
  go_ret
  refine ⟨rfl, ?_, ?_, fun i hi => ?_, fun i => ?_, kW.trans ((Kp.setCell _ _ (by simp)).trans (Kp.drew _ _))⟩
  · exact (cell_other (w := W) (a := ⟨f, 9, none⟩) (c := ⟨f, 7, none⟩) _ (fun e => by injection e with _ e2 _; omega)).trans H3.out
  · exact note_cells (s := 1) H5.out (by omega)
  · exact (cell_other (w := W) (a := ⟨f, 9, none⟩) (c := ⟨f, i, none⟩) _ (fun e => by injection e with _ e2 _; omega)).trans (H1.out i hi)
  · have h1 : ((W.setCell ⟨f, 9, none⟩ (.int .i64 pl)).drew).frozen? ⟨f, i, none⟩ = W.frozen? ⟨f, i, none⟩ := by simp
    exact h1.trans (H2.out i)
end Go.Proofs.YtanpiomfnbiilaaDoor
