/- The finder: one way followed, whose first instruction ends it at this place. -/
import Derived.Test.YtbakfojamdocgaaDoorU
namespace Go.Proofs.YtbakfojamdocgaaDoor
open Go.RowKit

theorem ownsRow_empty {w : World} {base size n : Nat} {e : TypeId} {g c : Nat} {xs : List Value} (h : w.ownsRow base e size (.slice (some ⟨g, 0, none⟩) n c) n xs) : w.ownsRow base e size (.slice (some ⟨g, 0, none⟩) 0 c) 0 [] := by
  refine ⟨by simp, ?_⟩
  rcases h.2 with ⟨q, _⟩ | ⟨g', cap, cur, q1, q2, q3, q4, q5, q6, _⟩
  · simp at q
  · simp at q1
    obtain ⟨rfl, rfl⟩ := q1
    exact .inr ⟨g, c, cur, rfl, q2, q3, Nat.zero_le _, q5, q6, by simp⟩

theorem own_ne_new {w : World} {base size n : Nat} {e : TypeId} {v : Value} {xs : List Value} (h : w.ownsRow base e size v n xs) : some w.heap.size ≠ v.ownBlock := by
  rcases h.2 with ⟨hv, _⟩ | ⟨g, cap, cur, hv, _, q3, _⟩
  · rw [hv]; simp [Value.ownBlock]
  · rw [hv]
    have := lt_of_block q3
    simp [Value.ownBlock]; omega

theorem Tryd.szThread : (Tryd.prog.info? 57).map (·.size) = some 22 := by kernel_rfl

/-- The finder when a way is about to be followed: its thread lies in the next block. -/
structure FMid (f B : Nat) (row : Option Nat) (nx dp x : Int) (w W : World) : Prop where
  os : W.os = w.os
  tape : W.tape = w.tape
  output : W.output = w.output
  size : w.heap.size + 1 ≤ W.heap.size
  block : ∀ k, k < w.heap.size → k ≠ f → some k ≠ row → W.heap[k]? = w.heap[k]?
  cell : ∀ i, i ≠ 5 → W.cell? ⟨f, i, none⟩ = w.cell? ⟨f, i, none⟩
  free : ∀ i, W.frozen? ⟨f, i, none⟩ = w.frozen? ⟨f, i, none⟩
  left : ∃ g c, W.cell? ⟨f, 5, none⟩ = some (.slice (some ⟨g, 0, none⟩) 0 c) ∧ W.ownsRow B 57 22 (.slice (some ⟨g, 0, none⟩) 0 c) 0 [] ∧ (row = some g ∨ w.heap.size < g) ∧ g ≠ f
  thread : W.rangeAt w.heap.size 0 (th nx dp x)

theorem fmid_of {f B g5 q5 : Nat} {v5 v5' : Value} {nx dp x : Int} {w w1 w3 w4 w5 : World} {o : Obj} (c5 : w.cell? ⟨f, 5, none⟩ = some v5) (k1 : Kp [] w w1) (z1 : w1.heap.size = w.heap.size + 1)
    (hg : ((w1.alloc o).drew).grownBy w3 v5'.ownBlock) (hf5 : some f ≠ v5'.ownBlock) (hor : v5'.ownBlock = some g5 ∨ ((w1.alloc o).drew).heap.size ≤ g5) (hgf : g5 ≠ f) (hgt : g5 ≠ w.heap.size) (hft : f ≠ w.heap.size)
    (h4 : w4 = w3.setCell ⟨f, 5, none⟩ (.slice (some ⟨g5, 0, none⟩) 1 q5)) (a5 : w4.cell? ⟨f, 5, none⟩ = some (.slice (some ⟨g5, 0, none⟩) 1 q5)) (own4 : w4.ownsRow B 57 22 (.slice (some ⟨g5, 0, none⟩) 1 q5) 1 ([] ++ th nx dp x))
    (h5 : w4.setCells w.heap.size 0 (th nx dp x).toArray.toList = w5) (hth : w4.there w.heap.size 0 22) :
    FMid f B v5'.ownBlock nx dp x w (w5.setCell ⟨f, 5, none⟩ (.slice (some ⟨g5, 0, none⟩) 0 q5)) := by
  have hlf := World.block_lt_of_cell? _ _ c5
  have kW : Kp [] w ((w1.alloc o).drew) := k1.trans ((Kp.alloc _ _ _).trans (Kp.drew _ _))
  have hz := kW.size
  have hzW : ((w1.alloc o).drew).heap.size = w.heap.size + 2 := by
    show (w1.alloc o).heap.size = _
    simp; omega
  have k45 : Kp [w.heap.size] w4 w5 := by rw [← h5]; exact Kp.setCells (by simp) _ _ _
  have k34 : Kp [f] w3 w4 := by rw [h4]; exact Kp.setCell _ _ (by simp)
  have k56 : Kp [f] w5 (w5.setCell ⟨f, 5, none⟩ (.slice (some ⟨g5, 0, none⟩) 0 q5)) := Kp.setCell _ _ (by simp)
  have s3 := hg.size
  have s4 := k34.size
  have s5 := k45.size
  have s6 := k56.size
  have hf3 : ∀ i, w3.cell? ⟨f, i, none⟩ = w.cell? ⟨f, i, none⟩ := fun i => (World.cell?_of_block (w := (w1.alloc o).drew) (hg.block f (Nat.lt_of_lt_of_le hlf hz) hf5)).trans (kW.cell hlf (by simp))
  have hz3 : ∀ i, w3.frozen? ⟨f, i, none⟩ = w.frozen? ⟨f, i, none⟩ := fun i => (grown_free' hg (p := ⟨f, i, none⟩) hf5 (Nat.lt_of_lt_of_le hlf hz)).trans (kW.frozen hlf (by simp))
  have c45 : ∀ i, w5.cell? ⟨f, i, none⟩ = w4.cell? ⟨f, i, none⟩ := fun i => by rw [← h5, World.cell?_setCells_out _ _ _ _ _ (fun e _ => absurd e hft)]
  have f45 : ∀ i, w5.frozen? ⟨f, i, none⟩ = w4.frozen? ⟨f, i, none⟩ := fun i => by rw [← h5, World.frozen?_setCells]
  have own5 : w5.ownsRow B 57 22 (.slice (some ⟨g5, 0, none⟩) 1 q5) 1 ([] ++ th nx dp x) := by
    refine ⟨own4.1, ?_⟩
    rcases own4.2 with q | ⟨g', cap, cur, q1, q2, q3, q4⟩
    · exact .inl q
    · have e : g5 = g' := by simp at q1; exact q1.1
      exact .inr ⟨g', cap, cur, q1, q2, (k45.block g' (lt_of_block q3) (by simp; omega)).trans q3, q4⟩
  refine ⟨?_, ?_, ?_, by omega, fun k hk hkf hkr => ?_, fun i hi => ?_, fun i => ?_, ?_, ?_⟩
  · exact k56.os.trans (k45.os.trans (k34.os.trans (hg.os.trans kW.os)))
  · exact k56.tape.trans (k45.tape.trans (k34.tape.trans (hg.tape.trans kW.tape)))
  · exact k56.output.trans (k45.output.trans (k34.output.trans (hg.output.trans kW.output)))
  · have e1 := (hg.block k (Nat.lt_of_lt_of_le hk hz) hkr).trans (kW.block k hk (by simp))
    have e2 := (k34.block k (by omega) (by simpa using hkf)).trans e1
    have e3 := (k45.block k (by omega) (by simp; omega)).trans e2
    exact (k56.block k (by omega) (by simpa using hkf)).trans e3
  · rw [cell_other _ (fun e => by injection e with _ e2 _; exact hi e2.symm), c45, h4, cell_other _ (fun e => by injection e with _ e2 _; exact hi e2.symm)]
    exact hf3 i
  · have e1 : (w5.setCell ⟨f, 5, none⟩ (.slice (some ⟨g5, 0, none⟩) 0 q5)).frozen? ⟨f, i, none⟩ = w5.frozen? ⟨f, i, none⟩ := by simp
    have e2 : (w3.setCell ⟨f, 5, none⟩ (.slice (some ⟨g5, 0, none⟩) 1 q5)).frozen? ⟨f, i, none⟩ = w3.frozen? ⟨f, i, none⟩ := by simp
    rw [e1, f45, h4, e2]; exact hz3 i
  · refine ⟨g5, q5, cell_same _ ((c45 5).trans a5), ownsRow_setCell_far (ownsRow_empty own5) hgf, hor.imp id (fun h => ?_), hgf⟩
    omega
  · have r5 : w5.rangeAt w.heap.size 0 (th nx dp x) := by rw [← h5]; exact World.rangeAt_setCells_same w4 w.heap.size 0 (th nx dp x) hth
    exact rangeAt_keep r5 k56 (by simpa using Ne.symm hft)

set_option maxRecDepth 100000 in
set_option maxHeartbeats 400000 in
theorem follow_one {w : World} {f B : Nat} {v5 v5' : Value} {nx dp x : Int} (M R : World → Prop)
    (c5 : w.cell? ⟨f, 5, none⟩ = some v5) (hf5 : some f ≠ v5'.ownBlock) (f5 : w.frozen? ⟨f, 5, none⟩ = false) (hown : w.ownsRow B 57 22 v5' 0 []) (hB : B ≤ w.heap.size)
    (hsl : ∀ W : World, (Instr.slice 50 v5 none (some (.int .i64 0)) none).run Tryd.prog W = .ok v5' W)
    (h1 : ∀ W, FMid f B v5'.ownBlock nx dp x w W → Calls Tryd.prog 27 #[.pointer (some ⟨f, 0, none⟩), .pointer (some ⟨w.heap.size, 0, none⟩)] W fun e W' => e = .returned (.bool true) ∧ M W')
    (h2 : ∀ W, M W → Calls Tryd.prog 28 #[.pointer (some ⟨f, 0, none⟩), .pointer (some ⟨w.heap.size, 0, none⟩)] W fun e W' => e = .returned (.bool false) ∧ R W')
    (h3 : ∀ W, R W → ∃ g c, W.cell? ⟨f, 5, none⟩ = some (.slice (some ⟨g, 0, none⟩) 0 c)) :
    Calls Tryd.prog 23 #[.pointer (some ⟨f, 0, none⟩), .agg (th nx dp x).toArray] w fun e w' => e = .returned (.tuple #[]) ∧ R w' := by
  have HH1 := hid h1
  have HH2 := hid h2
  have HH3 := hid h3
  have HC5 := hid c5
  clear h1 h2 h3
  go_enter Tryd.func23, Tryd.ntmps23
  go_wp2
  obtain ⟨ti, hi, hz0, hz1, hz2⟩ := info_parts Tryd.infoTh
  have HI := hid hi
  have HZ := hid (And.intro hz0 (And.intro hz1 hz2))
  clear hi hz0 hz1 hz2
  obtain ⟨w1, hw1⟩ : ∃ w1 : World, w1 = w.alloc (.cells (th nx dp x).toArray 57) := ⟨_, rfl⟩
  have k1 : Kp [] w w1 := by rw [hw1]; exact Kp.alloc _ _ _
  have z1 : w1.heap.size = w.heap.size + 1 := by rw [hw1]; simp
  have fT : Hid (∀ j, w1.frozen? ⟨w.heap.size, j, none⟩ = false) := hid (fun j => by rw [hw1]; simp)
  have rT : w1.rangeAt w.heap.size 0 (th nx dp x) := by rw [hw1]; exact range_new w (th nx dp x).toArray 57
  have e5 := (k1.cell (World.block_lt_of_cell? _ _ c5) (by simp)).trans c5
  have ef5 := (k1.frozen (p := ⟨f, 5, none⟩) (World.block_lt_of_cell? _ _ c5) (by simp)).trans f5
  have HO1 := hid (ownsRow_keep hown k1 (by simp))
  have HT := hid (th_one nx dp x)
  have hB1 := hid (Nat.le_trans hB k1.size)
  rw [← hw1]
  clear hw1
  refine wp_region_noPanic ?_
  refine wp_region_T (fun w' : World => w'.cell? ⟨f, 5, none⟩ = some v5 ∧ w'.rangeAt w.heap.size 0 (th nx dp x)) 11 (by kernel_rfl) ?_
  have hS : (fun w' : World => w'.cell? ⟨f, 5, none⟩ = some v5 ∧ w'.rangeAt w.heap.size 0 (th nx dp x)) w1.drew := ⟨e5, rT⟩
  refine wpAnyT_take (i := 0) (v := ?v0) rfl (by kernel_rfl) (by kernel_rfl) (by kernel_rfl) (by kernel_rfl) (fun _ _ _ h => h) (Or.inl ⟨by rfl, ?y0⟩) hS ?_
  case y0 => (intro w hSw; (try dsimp only at hSw); go_simp; (try with_reducible rfl))
  simp only [List.getElem_toArray, List.getElem_cons_zero, Act.put, List.setIfInBounds_toArray, List.set_cons_zero, List.set_cons_succ]
  refine wpAnyT_take (i := 1) (v := ?v1) rfl (by kernel_rfl) (by kernel_rfl) (by kernel_rfl) (by kernel_rfl) (fun _ _ _ h => h) (Or.inl ⟨by rfl, ?y1⟩) hS ?_
  case y1 => (intro w hSw; (try dsimp only at hSw); go_simp; (try with_reducible rfl))
  simp only [List.getElem_toArray, List.getElem_cons_succ, List.getElem_cons_zero, Act.put, List.setIfInBounds_toArray, List.set_cons_zero, List.set_cons_succ]
  refine wpAnyT_take (i := 2) (v := ?v2) rfl (by kernel_rfl) (by kernel_rfl) (by kernel_rfl) (by kernel_rfl) (fun _ _ _ h => h) (Or.inl ⟨by rfl, ?y2⟩) hS ?_
  case y2 => (intro w hSw; (try dsimp only at hSw); go_simp; (try with_reducible rfl))
  simp only [List.getElem_toArray, List.getElem_cons_succ, List.getElem_cons_zero, Act.put, List.setIfInBounds_toArray, List.set_cons_zero, List.set_cons_succ]
  refine wpAnyT_take (i := 3) (v := ?v3) rfl (by kernel_rfl) (by kernel_rfl) (by kernel_rfl) (by kernel_rfl) (fun _ _ _ h => h) (Or.inl ⟨by rfl, ?y3⟩) hS ?_
  case y3 => (intro w hSw; (try dsimp only at hSw); go_simp; (try with_reducible rfl))
  simp only [List.getElem_toArray, List.getElem_cons_succ, List.getElem_cons_zero, Act.put, List.setIfInBounds_toArray, List.set_cons_zero, List.set_cons_succ]
  refine wpAnyT_take (i := 4) (v := ?v4) rfl (by kernel_rfl) (by kernel_rfl) (by kernel_rfl) (by kernel_rfl) (fun _ _ _ h => h) (Or.inl ⟨by rfl, ?y4⟩) hS ?_
  case y4 => (intro w hSw; (try dsimp only at hSw); go_simp; (try with_reducible rfl))
  simp only [List.getElem_toArray, List.getElem_cons_succ, List.getElem_cons_zero, Act.put, List.setIfInBounds_toArray, List.set_cons_zero, List.set_cons_succ]
  refine wpAnyT_take (i := 5) (v := ?v5) rfl (by kernel_rfl) (by kernel_rfl) (by kernel_rfl) (by kernel_rfl) (fun _ _ _ h => h) (Or.inl ⟨by rfl, ?y5⟩) hS ?_
  case y5 => (intro w hSw; (try dsimp only at hSw); go_simp; (try with_reducible rfl))
  simp only [List.getElem_toArray, List.getElem_cons_succ, List.getElem_cons_zero, Act.put, List.setIfInBounds_toArray, List.set_cons_zero, List.set_cons_succ]
  refine wpAnyT_take (i := 6) (v := .agg (th nx dp x).toArray) rfl (by kernel_rfl) (by kernel_rfl) (by kernel_rfl) (by kernel_rfl) (fun _ _ _ h => h) (Or.inl ⟨by rfl, ?y6⟩) hS ?_
  case y6 => (intro W hw; have hl := run_loadAt_mid (P := Tryd.prog) W w.heap.size 0 57 (th nx dp x) _ hw.2 Tryd.underlying57 rfl Tryd.szThread; clear hw; simp only [execOp, List.getElem_toArray, List.getElem_cons_succ, List.getElem_cons_zero]; show Sem.run Tryd.prog (Instr.loadAt 57 (.pointer (some ⟨w.heap.size, 0, none⟩)) >>= fun u => pure (Next.value u)) W = _; rw [Sem.run_bind, hl]; rfl)
  simp only [List.getElem_toArray, List.getElem_cons_succ, List.getElem_cons_zero, Act.put, List.setIfInBounds_toArray, List.set_cons_zero, List.set_cons_succ]
  refine wpAnyT_one (i := 7) (by kernel_rfl) rfl (fun K hK => ?_)
  go_simp
  refine hK.out _ _ (.inr ⟨cell_ad e5 _, range_ad rT _⟩) ?_
  clear hK K
  refine wpAnyT_one (i := 8) (by kernel_rfl) rfl (fun K hK => ?_)
  refine step_append2 (by rfl) (.tmp 10) (.tmp 12) 50 (by rfl) B 57 ti _ 22 176 Tryd.underlying50 HI.out HZ.out.1 HZ.out.2.1 HZ.out.2.2 rfl (by decide) v5' 0 [] (by rfl) (HO1.out.alloc _).drew ⟨w.heap.size + 1, 0, none⟩ 1 1 (th nx dp x) (by rfl) rfl (news_cells w1 _ _ _ z1.symm) HT.out (by unfold maxLen; omega) (by omega) (Nat.le_trans hB1.out (by simp)) (by decide) ?_
  intro g5 q5 w3 hown3 hgrow hor
  have htn : some w.heap.size ≠ v5'.ownBlock := own_ne_new hown
  have S3 : (fun w' : World => w'.cell? ⟨f, 5, none⟩ = some v5 ∧ w'.rangeAt w.heap.size 0 (th nx dp x)) w3 := ⟨grown_cell' hgrow hf5 (cell_ad e5 _), rangeAt_grown (range_ad rT _) hgrow htn⟩
  refine hK.out _ _ (.inr S3) ?_
  clear hK K
  refine wpAnyT_one (i := 9) (by kernel_rfl) rfl (fun K hK => ?_)
  go_simp
  refine hK.out _ _ (.inr S3) ?_
  clear hK K
  refine wpAnyT_one (i := 10) (by kernel_rfl) rfl (fun K hK => ?_)
  go_simp
  refine hK.out _ _ (.inr S3) ?_
  clear hK K
  have c5' := S3.1
  have r3 := S3.2
  have f5' := (grown_free' hgrow (p := ⟨f, 5, none⟩) hf5 (World.block_lt_of_cell? _ _ (cell_ad e5 _))).trans (free_ad e5 ef5 _)
  have HG := hid (And.intro hown3 (And.intro hgrow hor))
  have R3 := hid r3
  clear hown3 hgrow hor S3 hS e5 ef5 rT r3
  refine wpAnyT_one (i := 11) (by kernel_rfl) rfl (fun K hK => ?_)
  go_simp
  refine hK.out _ _ (.inl rfl) ?_
  clear hK K
  refine wpAnyT_done (by kernel_rfl) ?_ _
  refine NoPanic.normal ?_
  go_wp2
  obtain ⟨hown3, hgrow, hor⟩ := HG.out
  have hlf := World.block_lt_of_cell? _ _ c5
  have hgf : g5 ≠ f := fun e => by
    rcases hor with h | h
    · rw [h, e] at hf5; exact hf5 rfl
    · rw [e] at h; simp at h hlf; omega
  have hgt : g5 ≠ w.heap.size := fun e => by
    rcases hor with h | h
    · rw [h, e] at htn; exact htn rfl
    · rw [e] at h; simp at h; omega
  have hft : f ≠ w.heap.size := by simp at hlf; omega
  obtain ⟨w4, hw4⟩ : ∃ w4 : World, w4 = w3.setCell ⟨f, 5, none⟩ (.slice (some ⟨g5, 0, none⟩) 1 q5) := ⟨_, rfl⟩
  have k4 : Kp [f] w3 w4 := by rw [hw4]; exact Kp.setCell _ _ (by simp)
  have a5 : w4.cell? ⟨f, 5, none⟩ = some (.slice (some ⟨g5, 0, none⟩) 1 q5) := by rw [hw4]; exact cell_same _ c5'
  have own4 : w4.ownsRow B 57 22 (.slice (some ⟨g5, 0, none⟩) 1 q5) 1 ([] ++ th nx dp x) := by rw [hw4]; exact ownsRow_setCell_far hown3 hgf
  have RG : Hid (w4.rangeAt g5 0 (th nx dp x)) := hid (fun j v hv => by
    have hj : j < 22 := (List.getElem?_eq_some_iff.1 hv).1
    rw [Nat.zero_add, own4.cellAt j (by omega)]; exact hv)
  have RT := hid (rangeAt_keep R3.out k4 (by simpa using Ne.symm hft))
  have g5f : w4.frozen? ⟨f, 5, none⟩ = false := by rw [hw4]; simpa using f5'
  rw [← hw4]
  have HO4 := hid own4
  have Z1 := hid z1
  have HW4 := hid hw4
  have TT : Hid (w4.there w.heap.size 0 22) := hid (fun j hj => by
    have hr := RT.out j ((th nx dp x)[j]'hj) (List.getElem?_eq_getElem hj)
    refine ⟨by rw [hr]; rfl, ?_⟩
    have e1 : w4.frozen? ⟨w.heap.size, 0 + j, none⟩ = w3.frozen? ⟨w.heap.size, 0 + j, none⟩ := by rw [hw4]; simp
    have e2 := grown_free' hgrow (p := ⟨w.heap.size, 0 + j, none⟩) htn (by show w.heap.size < (w1.alloc _).heap.size; simp; omega)
    have e3 := ((Kp.alloc [] w1 (.cells (th nx dp x).toArray 57)).frozen (p := ⟨w.heap.size, 0 + j, none⟩) (by show w.heap.size < w1.heap.size; omega) (by simp)).trans (fT.out (0 + j))
    exact e1.trans (e2.trans e3))
  have HOR := hid hor
  clear hw4 own4 hown3 hor
  obtain ⟨w5, hw5⟩ : ∃ w5 : World, w4.setCells w.heap.size 0 (th nx dp x).toArray.toList = w5 := ⟨_, rfl⟩
  have x5 : w5.cell? ⟨f, 5, none⟩ = some (.slice (some ⟨g5, 0, none⟩) 1 q5) := by
    rw [← hw5, World.cell?_setCells_out _ _ _ _ _ (fun e _ => absurd e hft)]; exact a5
  have y5 : w5.frozen? ⟨f, 5, none⟩ = false := by rw [← hw5, World.frozen?_setCells]; exact g5f
  have H5 := hid hw5
  clear hw5
  have HGR := hid hgrow
  have HF5 := hid hf5
  have HSL := hid hsl
  clear hgrow c5' f5' hsl c5 f5 hown z1 hlf htn hf5 hB
  refine wp_loop_rounds 2 ?_
  rw [rounds_succ]
  go_wp2_with (first | (refine wpList_load_mid rfl 57 (.tmp 33) rfl g5 0 rfl (th nx dp x) _ RG.out Tryd.underlying57 rfl Tryd.szThread ?_) | (refine wpList_store_mid rfl 57 (.tmp 3) (.tmp 34) rfl w.heap.size 0 (th nx dp x).toArray rfl rfl TT.out Tryd.szThread (all_oneCell_toArray HT.out) ?_; rw [H5.out]))
  have fm := fmid_of HC5.out k1 Z1.out HGR.out HF5.out HOR.out hgf hgt hft HW4.out a5 HO4.out H5.out TT.out
  generalize w5.setCell ⟨f, 5, none⟩ (.slice (some ⟨g5, 0, none⟩) 0 q5) = w6 at *
  clear x5 y5 a5 g5f
  refine wp_loop_rounds 1 ?_
  rw [rounds_succ]
  go_wp2_with fail
  refine (HH1.out _ fm).mono ?_
  rintro e w7 ⟨rfl, m7⟩
  have M7 := hid m7
  clear m7 fm
  go_wp2_with fail
  refine (HH2.out _ M7.out).mono ?_
  rintro e w8 ⟨rfl, r8⟩
  obtain ⟨g8, c8, hc8⟩ := HH3.out _ r8
  have R8 := hid r8
  clear r8
  go_wp2_with fail
  rw [rounds_succ]
  go_wp2_with fail
  go_end0
  exact ⟨rfl, R8.out⟩
end Go.Proofs.YtbakfojamdocgaaDoor
