/- The finder: all ways of one place, where there is one. -/
import Derived.Test.YtbakfojamdocgaaDoorV
import Derived.BigRegion
namespace Go.Proofs.YtbakfojamdocgaaDoor
open Go.RowKit

/-- The lists have changed places. -/
structure Swapped (f : Nat) (v3 v4 : Value) (w w' : World) : Prop where
  c3 : w'.cell? ⟨f, 3, none⟩ = some v3
  c4 : w'.cell? ⟨f, 4, none⟩ = some v4
  cell : ∀ i, i ≠ 3 → i ≠ 4 → w'.cell? ⟨f, i, none⟩ = w.cell? ⟨f, i, none⟩
  free : ∀ i, w'.frozen? ⟨f, i, none⟩ = w.frozen? ⟨f, i, none⟩
  kept : Kp [f] w w'

theorem swapped_of {f : Nat} {v u a b : Value} {w : World} (e3 : w.cell? ⟨f, 3, none⟩ = some a) (e4 : w.cell? ⟨f, 4, none⟩ = some b) : Swapped f v u w (((w.setCell ⟨f, 3, none⟩ v).setCell ⟨f, 4, none⟩ u).drew) := by
  have n34 : (⟨f, 3, none⟩ : Addr) ≠ ⟨f, 4, none⟩ := fun e => by injection e with _ e2 _; omega
  refine ⟨?_, ?_, fun i h3 h4 => ?_, fun i => ?_, (Kp.setCell _ _ (by simp)).trans ((Kp.setCell _ _ (by simp)).trans (Kp.drew _ _))⟩
  · exact (cell_other (w := w.setCell ⟨f, 3, none⟩ v) _ (Ne.symm n34)).trans (cell_same _ e3)
  · exact cell_same (w := w.setCell ⟨f, 3, none⟩ v) _ ((cell_other _ n34).trans e4)
  · exact (cell_other (w := w.setCell ⟨f, 3, none⟩ v) _ (fun e => by injection e with _ e2 _; exact h4 e2.symm)).trans (cell_other _ (fun e => by injection e with _ e2 _; exact h3 e2.symm))
  · have h1 : (((w.setCell ⟨f, 3, none⟩ v).setCell ⟨f, 4, none⟩ u).drew).frozen? ⟨f, i, none⟩ = w.frozen? ⟨f, i, none⟩ := by simp
    exact h1

set_option maxRecDepth 100000 in
set_option maxHeartbeats 1000000 in
theorem goOn_one {w : World} {f gh ch : Nat} {nx dp x : Int} (R : World → Prop)
    (c3 : w.cell? ⟨f, 3, none⟩ = some (.slice (some ⟨gh, 0, none⟩) 1 ch)) (c7 : w.cell? ⟨f, 7, none⟩ = some (.bool false)) (hr : w.rangeAt gh 0 (th nx dp x)) (hch : 1 ≤ ch)
    (hfol : ∀ W, Kp [] w W → Calls Tryd.prog 23 #[.pointer (some ⟨f, 0, none⟩), .agg (th nx dp x).toArray] W fun e W' => e = .returned (.tuple #[]) ∧ R W')
    (h3 : ∀ W, R W → W.cell? ⟨f, 3, none⟩ = some (.slice (some ⟨gh, 0, none⟩) 1 ch) ∧ W.frozen? ⟨f, 3, none⟩ = false ∧ W.frozen? ⟨f, 4, none⟩ = false ∧ ∃ ao n c, W.cell? ⟨f, 4, none⟩ = some (.slice ao n c)) :
    Calls Tryd.prog 20 #[.pointer (some ⟨f, 0, none⟩)] w fun e w' => e = .returned (.tuple #[]) ∧ ∃ W v, R W ∧ W.cell? ⟨f, 4, none⟩ = some v ∧ Swapped f v (.slice (some ⟨gh, 0, none⟩) 0 ch) W w' := by
  have HF := hid hfol
  have H3 := hid h3
  have HR := hid hr
  clear hfol h3 hr
  go_enter Tryd.func20, Tryd.ntmps20
  go_wp2
  refine wp_loop_rounds 2 ?_
  rw [rounds_succ]
  go_wp2_with fail
  go_quiet (fail)
  have kq := Kp.drewN [] w nq
  have RQ := hid (rangeAt_keep HR.out kq (by simp))
  have q3 := (kq.cell (World.block_lt_of_cell? _ _ c3) (by simp)).trans c3
  generalize w.drewN nq = w1 at *
  clear c3 c7
  go_wp2_with (first | (refine wpList_load_mid rfl 57 (.tmp 38) rfl gh 0 rfl (th nx dp x) _ RQ.out Tryd.underlying57 rfl Tryd.szThread ?_) | fail)
  refine (HF.out _ kq).mono ?_
  rintro e w2 ⟨rfl, r2⟩
  obtain ⟨e3, f3, f4, ao, n4, c4, e4⟩ := H3.out _ r2
  have R2 := hid r2
  have E4 := hid e4
  clear r2 q3
  go_wp2_with fail
  rw [rounds_succ]
  go_wp2_with fail
  go_region
  all_goals go_wp2
  all_goals go_end0
  all_goals exact ⟨rfl, _, _, R2.out, E4.out, swapped_of e3 E4.out⟩

set_option maxRecDepth 100000 in
set_option maxHeartbeats 1000000 in
/-- Two ways, the first of which finds: what began behind is cut. -/
theorem goOn_two {w : World} {f gh ch : Nat} {nx dp x nx' dp' x' : Int} (R : World → Prop)
    (c3 : w.cell? ⟨f, 3, none⟩ = some (.slice (some ⟨gh, 0, none⟩) 2 ch)) (c7 : w.cell? ⟨f, 7, none⟩ = some (.bool false)) (hr : w.rangeAt gh 0 (th nx dp x)) (hch : 2 ≤ ch) (hlt : decide (x < x') = true)
    (hfol : ∀ W, Kp [] w W → Calls Tryd.prog 23 #[.pointer (some ⟨f, 0, none⟩), .agg (th nx dp x).toArray] W fun e W' => e = .returned (.tuple #[]) ∧ R W')
    (h3 : ∀ W, R W → W.cell? ⟨f, 3, none⟩ = some (.slice (some ⟨gh, 0, none⟩) 2 ch) ∧ W.frozen? ⟨f, 3, none⟩ = false ∧ W.frozen? ⟨f, 4, none⟩ = false ∧ (∃ ao n c, W.cell? ⟨f, 4, none⟩ = some (.slice ao n c)) ∧
      W.cell? ⟨f, 7, none⟩ = some (.bool true) ∧ W.cell? ⟨f, 8, none⟩ = some (.int .i64 x) ∧ W.rangeAt gh 22 (th nx' dp' x')) :
    Calls Tryd.prog 20 #[.pointer (some ⟨f, 0, none⟩)] w fun e w' => e = .returned (.tuple #[]) ∧ ∃ W v, R W ∧ W.cell? ⟨f, 4, none⟩ = some v ∧ Swapped f v (.slice (some ⟨gh, 0, none⟩) 0 ch) W w' := by
  have HF := hid hfol
  have H3 := hid h3
  have HR := hid hr
  clear hfol h3 hr
  go_enter Tryd.func20, Tryd.ntmps20
  go_wp2
  refine wp_loop_rounds 2 ?_
  rw [rounds_succ]
  go_wp2_with fail
  go_quiet (fail)
  have kq := Kp.drewN [] w nq
  have RQ := hid (rangeAt_keep HR.out kq (by simp))
  have q3 := (kq.cell (World.block_lt_of_cell? _ _ c3) (by simp)).trans c3
  generalize w.drewN nq = w1 at *
  clear c3 c7
  go_wp2_with (first | (refine wpList_load_mid rfl 57 (.tmp 38) rfl gh 0 rfl (th nx dp x) _ RQ.out Tryd.underlying57 rfl Tryd.szThread ?_) | fail)
  refine (HF.out _ kq).mono ?_
  rintro e w2 ⟨rfl, r2⟩
  obtain ⟨e3, f3, f4, ⟨ao, n4, c4, e4⟩, e7, e8, r1⟩ := H3.out _ r2
  have R2 := hid r2
  have E4 := hid e4
  have t2 : w2.cell? ⟨gh, 24, none⟩ = some (.int .i64 x') := r1 2 _ rfl
  clear r2 q3 r1
  go_wp2_with fail
  rw [rounds_succ]
  go_wp2_with fail
  go_quiet (fail)
  go_wp2_with fail
  go_region
  all_goals go_wp2
  all_goals go_end0
  all_goals
    have s := swapped_of (v := .slice ao n4 c4) (u := .slice (some ⟨gh, 0, none⟩) 0 ch) (w := w2.drewN nq) e3 E4.out
    exact ⟨rfl, _, _, R2.out, E4.out, s.c3, s.c4, s.cell, s.free, (Kp.drewN _ _ _).trans s.kept⟩
end Go.Proofs.YtbakfojamdocgaaDoor
