/- What the claim needs of: GCToGD. -/
import Derived.Test.YtonnimbcekhbgaaGreatDoorX25

/- GCToGD. -/
namespace Go.Proofs.YtonnimbcekhbgaaGreatDoor
open Go.RowKit

set_option maxRecDepth 100000 in
set_option maxHeartbeats 1000000 in
theorem begin_no {w : World} {f p t g n c a pl : Nat} (c0 : w.cell? ⟨f, 0, none⟩ = some (.pointer (some ⟨p, 0, none⟩))) (c2 : w.cell? ⟨f, 2, none⟩ = some (.int .i64 pl))
    (p0 : w.cell? ⟨p, 0, none⟩ = some (.slice (some ⟨g, 0, none⟩) n c)) (t0 : w.cell? ⟨t, 0, none⟩ = some (.int .i64 a)) (ha : a < n) (i0 : w.cell? ⟨g, a * 9, none⟩ = some (.int .i64 1)) (hp : 0 < pl) :
    Calls Tryz.prog 166 #[.pointer (some ⟨f, 0, none⟩), .pointer (some ⟨t, 0, none⟩)] w fun e w' => e = .returned (.bool false) ∧ Kp [] w w' := by
  have hne : ¬ pl = 0 := by omega
  go_enter Tryz.func166, Tryz.ntmps166
  go_wp2
  go_quiet (fail)
  go_wp2
  all_goals go_ret
  all_goals exact ⟨rfl, Kp.drewN _ _ _⟩

set_option maxRecDepth 100000 in
set_option maxHeartbeats 1000000 in
theorem begin_yes {w : World} {f p t g n c a nx : Nat} (c0 : w.cell? ⟨f, 0, none⟩ = some (.pointer (some ⟨p, 0, none⟩))) (c2 : w.cell? ⟨f, 2, none⟩ = some (.int .i64 (0 : Nat)))
    (p0 : w.cell? ⟨p, 0, none⟩ = some (.slice (some ⟨g, 0, none⟩) n c)) (t0 : w.cell? ⟨t, 0, none⟩ = some (.int .i64 a)) (ha : a < n) (i0 : w.cell? ⟨g, a * 9, none⟩ = some (.int .i64 1)) (f0 : w.frozen? ⟨t, 0, none⟩ = false) (i1 : w.cell? ⟨g, a * 9 + 1, none⟩ = some (.int .i64 nx)) :
    Calls Tryz.prog 166 #[.pointer (some ⟨f, 0, none⟩), .pointer (some ⟨t, 0, none⟩)] w fun e w' => e = .returned (.bool true) ∧ ∃ k, w' = (w.drewN k).setCell ⟨t, 0, none⟩ (.int .i64 nx) := by
  go_enter Tryz.func166, Tryz.ntmps166
  go_wp2
  go_quiet (fail)
  go_wp2
  all_goals go_ret
  all_goals exact ⟨rfl, _, rfl⟩

set_option maxRecDepth 100000 in
set_option maxHeartbeats 1000000 in
theorem end_no {w : World} {f p t g n c a pl : Nat} {text : ByteArray} (c0 : w.cell? ⟨f, 0, none⟩ = some (.pointer (some ⟨p, 0, none⟩))) (c2 : w.cell? ⟨f, 2, none⟩ = some (.int .i64 pl)) (c1 : w.cell? ⟨f, 1, none⟩ = some (.string text))
    (p0 : w.cell? ⟨p, 0, none⟩ = some (.slice (some ⟨g, 0, none⟩) n c)) (t0 : w.cell? ⟨t, 0, none⟩ = some (.int .i64 a)) (ha : a < n) (i0 : w.cell? ⟨g, a * 9, none⟩ = some (.int .i64 2)) (hne : ¬ pl = text.size) :
    Calls Tryz.prog 166 #[.pointer (some ⟨f, 0, none⟩), .pointer (some ⟨t, 0, none⟩)] w fun e w' => e = .returned (.bool false) ∧ Kp [] w w' := by
  go_enter Tryz.func166, Tryz.ntmps166
  go_wp2
  go_quiet (fail)
  go_wp2
  go_quiet (fail)
  go_wp2
  all_goals go_ret
  all_goals exact ⟨rfl, (Kp.drewN _ _ _).trans (Kp.drewN _ _ _)⟩

set_option maxRecDepth 100000 in
set_option maxHeartbeats 1000000 in
theorem end_yes {w : World} {f p t g n c a pl nx : Nat} {text : ByteArray} (c0 : w.cell? ⟨f, 0, none⟩ = some (.pointer (some ⟨p, 0, none⟩))) (c2 : w.cell? ⟨f, 2, none⟩ = some (.int .i64 pl)) (c1 : w.cell? ⟨f, 1, none⟩ = some (.string text))
    (p0 : w.cell? ⟨p, 0, none⟩ = some (.slice (some ⟨g, 0, none⟩) n c)) (t0 : w.cell? ⟨t, 0, none⟩ = some (.int .i64 a)) (ha : a < n) (i0 : w.cell? ⟨g, a * 9, none⟩ = some (.int .i64 2)) (f0 : w.frozen? ⟨t, 0, none⟩ = false) (i1 : w.cell? ⟨g, a * 9 + 1, none⟩ = some (.int .i64 nx)) (hp : pl = text.size) :
    Calls Tryz.prog 166 #[.pointer (some ⟨f, 0, none⟩), .pointer (some ⟨t, 0, none⟩)] w fun e w' => e = .returned (.bool true) ∧ ∃ k, w' = (w.drewN k).setCell ⟨t, 0, none⟩ (.int .i64 nx) := by
  subst hp
  go_enter Tryz.func166, Tryz.ntmps166
  go_wp2
  go_quiet (fail)
  go_wp2
  go_quiet (fail)
  go_wp2
  all_goals go_ret
  all_goals exact ⟨rfl, _, rfl⟩

set_option maxRecDepth 100000 in
set_option maxHeartbeats 1000000 in
theorem turn_no {w : World} {f p t g n c a tk dp : Nat} (c0 : w.cell? ⟨f, 0, none⟩ = some (.pointer (some ⟨p, 0, none⟩))) 
    (p0 : w.cell? ⟨p, 0, none⟩ = some (.slice (some ⟨g, 0, none⟩) n c)) (t0 : w.cell? ⟨t, 0, none⟩ = some (.int .i64 a)) (ha : a < n) (i0 : w.cell? ⟨g, a * 9, none⟩ = some (.int .i64 5)) (t1 : w.cell? ⟨t, 1, none⟩ = some (.int .i64 tk)) (i4 : w.cell? ⟨g, a * 9 + 4, none⟩ = some (.int .i64 dp)) (hp : tk ≤ dp) :
    Calls Tryz.prog 166 #[.pointer (some ⟨f, 0, none⟩), .pointer (some ⟨t, 0, none⟩)] w fun e w' => e = .returned (.bool false) ∧ Kp [] w w' := by
  go_enter Tryz.func166, Tryz.ntmps166
  go_wp2
  go_quiet (fail)
  go_wp2
  go_quiet (fail)
  go_wp2
  all_goals go_ret
  all_goals exact ⟨rfl, (Kp.drewN _ _ _).trans (Kp.drewN _ _ _)⟩

set_option maxRecDepth 100000 in
set_option maxHeartbeats 1000000 in
theorem turn_yes {w : World} {f p t g n c a tk dp nx : Nat} (c0 : w.cell? ⟨f, 0, none⟩ = some (.pointer (some ⟨p, 0, none⟩))) 
    (p0 : w.cell? ⟨p, 0, none⟩ = some (.slice (some ⟨g, 0, none⟩) n c)) (t0 : w.cell? ⟨t, 0, none⟩ = some (.int .i64 a)) (ha : a < n) (i0 : w.cell? ⟨g, a * 9, none⟩ = some (.int .i64 5)) (f0 : w.frozen? ⟨t, 0, none⟩ = false) (i1 : w.cell? ⟨g, a * 9 + 1, none⟩ = some (.int .i64 nx)) (t1 : w.cell? ⟨t, 1, none⟩ = some (.int .i64 tk)) (f1 : w.frozen? ⟨t, 1, none⟩ = false) (i4 : w.cell? ⟨g, a * 9 + 4, none⟩ = some (.int .i64 dp)) (hp : ¬ tk ≤ dp) (htg : t ≠ g) (htf : t ≠ f) (htp : t ≠ p) :
    Calls Tryz.prog 166 #[.pointer (some ⟨f, 0, none⟩), .pointer (some ⟨t, 0, none⟩)] w fun e w' => e = .returned (.bool true) ∧ ∃ k, w' = ((w.drewN k).setCell ⟨t, 1, none⟩ (.int .i64 dp)).setCell ⟨t, 0, none⟩ (.int .i64 nx) := by
  go_enter Tryz.func166, Tryz.ntmps166
  go_wp2
  go_quiet (fail)
  go_wp2
  go_quiet (fail)
  go_wp2
  all_goals go_ret
  all_goals exact ⟨rfl, _, rfl⟩

set_option maxRecDepth 100000 in
set_option maxHeartbeats 1000000 in
theorem note_any {w : World} {f p t g n c a pl sl nx : Nat} {vo : Value} (c0 : w.cell? ⟨f, 0, none⟩ = some (.pointer (some ⟨p, 0, none⟩))) (c2 : w.cell? ⟨f, 2, none⟩ = some (.int .i64 pl))
    (p0 : w.cell? ⟨p, 0, none⟩ = some (.slice (some ⟨g, 0, none⟩) n c)) (t0 : w.cell? ⟨t, 0, none⟩ = some (.int .i64 a)) (ha : a < n) (i0 : w.cell? ⟨g, a * 9, none⟩ = some (.int .i64 3)) (f0 : w.frozen? ⟨t, 0, none⟩ = false) (i1 : w.cell? ⟨g, a * 9 + 1, none⟩ = some (.int .i64 nx)) (i3 : w.cell? ⟨g, a * 9 + 3, none⟩ = some (.int .i64 sl)) (hs : sl < 20) (ts : w.cell? ⟨t, 2 + sl, none⟩ = some vo) (fs : w.frozen? ⟨t, 2 + sl, none⟩ = false) (htg : t ≠ g) (htf : t ≠ f) (htp : t ≠ p) :
    Calls Tryz.prog 166 #[.pointer (some ⟨f, 0, none⟩), .pointer (some ⟨t, 0, none⟩)] w fun e w' => e = .returned (.bool true) ∧ ∃ k, w' = ((w.drewN k).setCell ⟨t, 2 + sl, none⟩ (.int .i64 pl)).setCell ⟨t, 0, none⟩ (.int .i64 nx) := by
  go_enter Tryz.func166, Tryz.ntmps166
  go_wp2
  go_quiet (fail)
  go_wp2

  go_region
  all_goals go_wp2
  all_goals go_ret
  all_goals exact ⟨rfl, _, rfl⟩

end Go.Proofs.YtonnimbcekhbgaaGreatDoor

/- The finder: an instruction that goes on by two ways. -/
namespace Go.Proofs.YtonnimbcekhbgaaGreatDoor
open Go.RowKit

/-- All blocks that were there but f and one more are as they were; of f all cells but number q. -/
structure HitQ (q f : Nat) (row : Option Nat) (w w' : World) : Prop where
  os : w'.os = w.os
  tape : w'.tape = w.tape
  output : w'.output = w.output
  size : w.heap.size ≤ w'.heap.size
  block : ∀ k, k < w.heap.size → k ≠ f → some k ≠ row → w'.heap[k]? = w.heap[k]?
  cell : ∀ i, i ≠ q → w'.cell? ⟨f, i, none⟩ = w.cell? ⟨f, i, none⟩
  free : ∀ i, w'.frozen? ⟨f, i, none⟩ = w.frozen? ⟨f, i, none⟩

theorem step_postQ {w w2 w3 : World} {q f B nA g' c' : Nat} {v4 : Value} {xs ys : List Value} {o : Obj} (hc : w.cell? ⟨f, q, none⟩ = some v4) (k2 : Kp [] w w2) (_ho : w2.ownsRow B 189 22 v4 nA xs)
    (hown : w3.ownsRow B 189 22 (.slice (some ⟨g', 0, none⟩) (nA + 1) c') (nA + 1) ys) (hg : ((w2.alloc o).drew).grownBy w3 v4.ownBlock) (hor : v4.ownBlock = some g' ∨ ((w2.alloc o).drew).heap.size ≤ g')
    (hf4 : some f ≠ v4.ownBlock) (hc3 : w3.cell? ⟨f, q, none⟩ = some v4) :
    ∃ g c, (w3.setCell ⟨f, q, none⟩ (.slice (some ⟨g', 0, none⟩) (nA + 1) c')).cell? ⟨f, q, none⟩ = some (.slice (some ⟨g, 0, none⟩) (nA + 1) c) ∧
      (w3.setCell ⟨f, q, none⟩ (.slice (some ⟨g', 0, none⟩) (nA + 1) c')).ownsRow B 189 22 (.slice (some ⟨g, 0, none⟩) (nA + 1) c) (nA + 1) ys ∧ (v4.ownBlock = some g ∨ w.heap.size ≤ g) ∧
      HitQ q f v4.ownBlock w (w3.setCell ⟨f, q, none⟩ (.slice (some ⟨g', 0, none⟩) (nA + 1) c')) := by
  have hlt := World.block_lt_of_cell? _ _ hc
  have kW : Kp [] w ((w2.alloc o).drew) := k2.trans ((Kp.alloc _ _ _).trans (Kp.drew _ _))
  have hz := kW.size
  have hgf : g' ≠ f := fun e => by
    rcases hor with h | h
    · rw [h, e] at hf4; exact hf4 rfl
    · rw [e] at h; have := hlt; simp at this; omega
  refine ⟨g', c', cell_same _ hc3, ?_, hor.imp id (fun h => Nat.le_trans hz h), ?_⟩
  · exact ownsRow_setCell_far hown hgf
  · refine ⟨hg.os.trans kW.os, hg.tape.trans kW.tape, hg.output.trans kW.output, ?_, fun k hk hkf hkr => ?_, fun i hi => ?_, fun i => ?_⟩
    · have := hg.size; simp [World.setCell] at this ⊢; have := k2.size; omega
    · rw [Below.heap_setCell _ _ _ _ hkf]
      exact (hg.block k (Nat.lt_of_lt_of_le hk hz) hkr).trans (kW.block k hk (by simp))
    · rw [cell_other _ (fun h => hi (by injection h with _ h2 _; exact h2.symm))]
      exact (World.cell?_of_block (w := (w2.alloc o).drew) (hg.block f (Nat.lt_of_lt_of_le hlt hz) hf4)).trans (kW.cell hlt (by simp))
    · have h1 : (w3.setCell ⟨f, q, none⟩ (.slice (some ⟨g', 0, none⟩) (nA + 1) c')).frozen? ⟨f, i, none⟩ = w3.frozen? ⟨f, i, none⟩ := by simp
      rw [h1]
      exact (grown_free' hg (p := ⟨f, i, none⟩) hf4 (Nat.lt_of_lt_of_le hlt hz)).trans (kW.frozen hlt (by simp))

set_option maxRecDepth 100000 in
set_option maxHeartbeats 4000000 in
theorem split_any {w : World} {f p t g n c a B nL : Nat} {v5 : Value} {xs : List Value} {nx ot tk : Int} {x : Nat → Int}
    (c0 : w.cell? ⟨f, 0, none⟩ = some (.pointer (some ⟨p, 0, none⟩)))
    (c5 : w.cell? ⟨f, 5, none⟩ = some v5) (f5 : w.frozen? ⟨f, 5, none⟩ = false) (hown : w.ownsRow B 189 22 v5 nL xs) (hB : B ≤ w.heap.size) (hf5 : some f ≠ v5.ownBlock) (hg5 : some g ≠ v5.ownBlock) (ht5 : some t ≠ v5.ownBlock) (hnL : nL ≤ 100000)
    (p0 : w.cell? ⟨p, 0, none⟩ = some (.slice (some ⟨g, 0, none⟩) n c)) (t0 : w.cell? ⟨t, 0, none⟩ = some (.int .i64 a)) (t1 : w.cell? ⟨t, 1, none⟩ = some (.int .i64 tk)) (ft : w.frozen? ⟨t, 0, none⟩ = false) (hr : w.rangeAt t 2 (nf x)) (ha : a < n)
    (i0 : w.cell? ⟨g, a * 9, none⟩ = some (.int .i64 4)) (i1 : w.cell? ⟨g, a * 9 + 1, none⟩ = some (.int .i64 nx)) (i2 : w.cell? ⟨g, a * 9 + 2, none⟩ = some (.int .i64 ot)) (hgf : g ≠ f) (htf : t ≠ f) :
    Calls Tryz.prog 166 #[.pointer (some ⟨f, 0, none⟩), .pointer (some ⟨t, 0, none⟩)] w fun e w' => e = .returned (.bool true) ∧
      ∃ w4, w' = w4.setCell ⟨t, 0, none⟩ (.int .i64 nx) ∧ ∃ g' c', w4.cell? ⟨f, 5, none⟩ = some (.slice (some ⟨g', 0, none⟩) (nL + 1) c') ∧ w4.ownsRow B 189 22 (.slice (some ⟨g', 0, none⟩) (nL + 1) c') (nL + 1) (xs ++ tf ot tk x) ∧ (v5.ownBlock = some g' ∨ w.heap.size ≤ g') ∧
        HitQ 5 f v5.ownBlock w w4 := by
  obtain ⟨ti, hi, hz0, hz1, hz2⟩ := info_parts Tryz.infoTh
  have HI := hid hi
  have HZ := hid (And.intro hz0 (And.intro hz1 hz2))
  clear hi hz0 hz1 hz2
  have HC5 := hid c5
  have HR := hid hr
  clear hr
  go_enter Tryz.func166, Tryz.ntmps166
  go_wp2
  go_quiet (fail)
  go_wp2
  have k2 : Kp [] w (w.drewN nq) := Kp.drewN _ _ _
  generalize w.drewN nq = w2 at *
  have e5 := (k2.cell (World.block_lt_of_cell? _ _ c5) (by simp)).trans c5
  have ef5 := (k2.frozen (p := ⟨f, 5, none⟩) (World.block_lt_of_cell? _ _ c5) (by simp)).trans f5
  have j1 := hid ((k2.cell (World.block_lt_of_cell? _ _ i1) (by simp)).trans i1)
  have j2 := (k2.cell (World.block_lt_of_cell? _ _ i2) (by simp)).trans i2
  have u1 := (k2.cell (World.block_lt_of_cell? _ _ t1) (by simp)).trans t1
  have u0 := hid ((k2.cell (World.block_lt_of_cell? _ _ t0) (by simp)).trans t0)
  have uf := hid ((k2.frozen (p := ⟨t, 0, none⟩) (World.block_lt_of_cell? _ _ t0) (by simp)).trans ft)
  have r2 := rangeAt_keep HR.out k2 (by simp)
  have HO2 := hid (ownsRow_keep hown k2 (by simp))
  have hB2 := hid (Nat.le_trans hB k2.size)
  have HT := hid (tf_one ot tk x)
  clear c0 c5 f5 hown p0 t0 t1 ft i0 i1 i2
  refine wp_region_noPanic ?_
  refine wp_region_T (fun w' : World => w'.cell? ⟨f, 5, none⟩ = some v5 ∧ w'.cell? ⟨g, a * 9 + 2, none⟩ = some (.int .i64 ot) ∧ w'.cell? ⟨t, 1, none⟩ = some (.int .i64 tk) ∧ w'.rangeAt t 2 (nf x)) 22 (by kernel_rfl) ?_
  have hS : (fun w' : World => w'.cell? ⟨f, 5, none⟩ = some v5 ∧ w'.cell? ⟨g, a * 9 + 2, none⟩ = some (.int .i64 ot) ∧ w'.cell? ⟨t, 1, none⟩ = some (.int .i64 tk) ∧ w'.rangeAt t 2 (nf x)) w2.drew := ⟨e5, j2, u1, r2⟩
  refine wpAnyT_take (i := 0) (v := ?v0) rfl (by kernel_rfl) (by kernel_rfl) (by kernel_rfl) (by kernel_rfl) (fun _ _ _ h => h) (Or.inl ⟨by rfl, ?y0⟩) hS ?_
  case y0 => (intro w hSw; (try dsimp only at hSw); go_simp; (try with_reducible rfl))
  simp only [List.getElem_toArray, List.getElem_cons_zero, Act.put, List.setIfInBounds_toArray, List.set_cons_zero, List.set_cons_succ]
  refine wpAnyT_take (i := 1) (v := ?v1) rfl (by kernel_rfl) (by kernel_rfl) (by kernel_rfl) (by kernel_rfl) (fun _ _ _ h => h) (Or.inl ⟨by rfl, ?y1⟩) hS ?_
  case y1 => (intro w hSw; (try dsimp only at hSw); go_simp; (try with_reducible rfl))
  simp only [List.getElem_toArray, List.getElem_cons_succ, List.getElem_cons_zero, Act.put, List.setIfInBounds_toArray, List.set_cons_zero, List.set_cons_succ]
  refine wpAnyT_take (i := 2) (v := ?v2) rfl (by kernel_rfl) (by kernel_rfl) (by kernel_rfl) (by kernel_rfl) (fun _ _ _ h => h) (Or.inl ⟨by rfl, ?y2⟩) hS ?_
  case y2 => (intro w hSw; (try dsimp only at hSw); go_simp; (try with_reducible rfl))
  simp only [List.getElem_toArray, List.getElem_cons_succ, List.getElem_cons_zero, Act.put, List.setIfInBounds_toArray, List.set_cons_zero, List.set_cons_succ]
  refine wpAnyT_take (i := 3) (v := ?v3) rfl (by kernel_rfl) (by kernel_rfl) (by kernel_rfl) (by kernel_rfl) (fun _ _ _ h => h) (Or.inl ⟨by rfl, ?y3⟩) hS ?_
  case y3 => (intro w hSw; (try dsimp only at hSw); go_simp; (try with_reducible rfl))
  simp only [List.getElem_toArray, List.getElem_cons_succ, List.getElem_cons_zero, Act.put, List.setIfInBounds_toArray, List.set_cons_zero, List.set_cons_succ]
  refine wpAnyT_take (i := 4) (v := ?v4) rfl (by kernel_rfl) (by kernel_rfl) (by kernel_rfl) (by kernel_rfl) (fun _ _ _ h => h) (Or.inl ⟨by rfl, ?y4⟩) hS ?_
  case y4 => (intro w hSw; (try dsimp only at hSw); go_simp; (try with_reducible rfl))
  simp only [List.getElem_toArray, List.getElem_cons_succ, List.getElem_cons_zero, Act.put, List.setIfInBounds_toArray, List.set_cons_zero, List.set_cons_succ]
  refine wpAnyT_take (i := 5) (v := ?v5) rfl (by kernel_rfl) (by kernel_rfl) (by kernel_rfl) (by kernel_rfl) (fun _ _ _ h => h) (Or.inl ⟨by rfl, ?y5⟩) hS ?_
  case y5 => (intro w hSw; (try dsimp only at hSw); go_simp; (try with_reducible rfl))
  simp only [List.getElem_toArray, List.getElem_cons_succ, List.getElem_cons_zero, Act.put, List.setIfInBounds_toArray, List.set_cons_zero, List.set_cons_succ]
  refine wpAnyT_take (i := 6) (v := ?v6) rfl (by kernel_rfl) (by kernel_rfl) (by kernel_rfl) (by kernel_rfl) (fun _ _ _ h => h) (Or.inl ⟨by rfl, ?y6⟩) hS ?_
  case y6 => (intro w hSw; (try dsimp only at hSw); go_simp; (try with_reducible rfl))
  simp only [List.getElem_toArray, List.getElem_cons_succ, List.getElem_cons_zero, Act.put, List.setIfInBounds_toArray, List.set_cons_zero, List.set_cons_succ]
  refine wpAnyT_take (i := 7) (v := ?v7) rfl (by kernel_rfl) (by kernel_rfl) (by kernel_rfl) (by kernel_rfl) (fun _ _ _ h => h) (Or.inl ⟨by rfl, ?y7⟩) hS ?_
  case y7 => (intro w hSw; (try dsimp only at hSw); go_simp; (try with_reducible rfl))
  simp only [List.getElem_toArray, List.getElem_cons_succ, List.getElem_cons_zero, Act.put, List.setIfInBounds_toArray, List.set_cons_zero, List.set_cons_succ]
  refine wpAnyT_take (i := 8) (v := ?v8) rfl (by kernel_rfl) (by kernel_rfl) (by kernel_rfl) (by kernel_rfl) (fun _ _ _ h => h) (Or.inl ⟨by rfl, ?y8⟩) hS ?_
  case y8 => (intro w hSw; (try dsimp only at hSw); go_simp; (try with_reducible rfl))
  simp only [List.getElem_toArray, List.getElem_cons_succ, List.getElem_cons_zero, Act.put, List.setIfInBounds_toArray, List.set_cons_zero, List.set_cons_succ]
  refine wpAnyT_take (i := 9) (v := ?v9) rfl (by kernel_rfl) (by kernel_rfl) (by kernel_rfl) (by kernel_rfl) (fun _ _ _ h => h) (Or.inl ⟨by rfl, ?y9⟩) hS ?_
  case y9 => (intro w hSw; (try dsimp only at hSw); go_simp; (try with_reducible rfl))
  simp only [List.getElem_toArray, List.getElem_cons_succ, List.getElem_cons_zero, Act.put, List.setIfInBounds_toArray, List.set_cons_zero, List.set_cons_succ]
  refine wpAnyT_take (i := 10) (v := ?v10) rfl (by kernel_rfl) (by kernel_rfl) (by kernel_rfl) (by kernel_rfl) (fun _ _ _ h => h) (Or.inl ⟨by rfl, ?y10⟩) hS ?_
  case y10 => (intro w hSw; (try dsimp only at hSw); go_simp; (try with_reducible rfl))
  simp only [List.getElem_toArray, List.getElem_cons_succ, List.getElem_cons_zero, Act.put, List.setIfInBounds_toArray, List.set_cons_zero, List.set_cons_succ]
  refine wpAnyT_take (i := 11) (v := ?v11) rfl (by kernel_rfl) (by kernel_rfl) (by kernel_rfl) (by kernel_rfl) (fun _ _ _ h => h) (Or.inl ⟨by rfl, ?y11⟩) hS ?_
  case y11 => (intro w hSw; (try dsimp only at hSw); go_simp; (try with_reducible rfl))
  simp only [List.getElem_toArray, List.getElem_cons_succ, List.getElem_cons_zero, Act.put, List.setIfInBounds_toArray, List.set_cons_zero, List.set_cons_succ]
  refine wpAnyT_take (i := 12) (v := ?v12) rfl (by kernel_rfl) (by kernel_rfl) (by kernel_rfl) (by kernel_rfl) (fun _ _ _ h => h) (Or.inl ⟨by rfl, ?y12⟩) hS ?_
  case y12 => (intro w hSw; (try dsimp only at hSw); go_simp; (try with_reducible rfl))
  simp only [List.getElem_toArray, List.getElem_cons_succ, List.getElem_cons_zero, Act.put, List.setIfInBounds_toArray, List.set_cons_zero, List.set_cons_succ]
  refine wpAnyT_take (i := 13) (v := ?v13) rfl (by kernel_rfl) (by kernel_rfl) (by kernel_rfl) (by kernel_rfl) (fun _ _ _ h => h) (Or.inl ⟨by rfl, ?y13⟩) hS ?_
  case y13 => (intro w hSw; (try dsimp only at hSw); go_simp; (try with_reducible rfl))
  simp only [List.getElem_toArray, List.getElem_cons_succ, List.getElem_cons_zero, Act.put, List.setIfInBounds_toArray, List.set_cons_zero, List.set_cons_succ]
  refine wpAnyT_take (i := 14) (v := ?v14) rfl (by kernel_rfl) (by kernel_rfl) (by kernel_rfl) (by kernel_rfl) (fun _ _ _ h => h) (Or.inl ⟨by rfl, ?y14⟩) hS ?_
  case y14 => (intro w hSw; (try dsimp only at hSw); go_simp; (try with_reducible rfl))
  simp only [List.getElem_toArray, List.getElem_cons_succ, List.getElem_cons_zero, Act.put, List.setIfInBounds_toArray, List.set_cons_zero, List.set_cons_succ]
  refine wpAnyT_take (i := 15) (v := ?v15) rfl (by kernel_rfl) (by kernel_rfl) (by kernel_rfl) (by kernel_rfl) (fun _ _ _ h => h) (Or.inl ⟨by rfl, ?y15⟩) hS ?_
  case y15 => (intro w hSw; (try dsimp only at hSw); go_simp; (try with_reducible rfl))
  simp only [List.getElem_toArray, List.getElem_cons_succ, List.getElem_cons_zero, Act.put, List.setIfInBounds_toArray, List.set_cons_zero, List.set_cons_succ]
  refine wpAnyT_take (i := 16) (v := .agg (nf x).toArray) rfl (by kernel_rfl) (by kernel_rfl) (by kernel_rfl) (by kernel_rfl) (fun _ _ _ h => h) (Or.inl ⟨by rfl, ?y16⟩) hS ?_
  case y16 => (intro w hw; have hl := run_loadAt_mid (P := Tryz.prog) w t 2 162 (nf x) _ hw.2.2.2 Tryz.underlying162 rfl Tryz.szNotes; clear hw; simp only [execOp, List.getElem_toArray, List.getElem_cons_succ, List.getElem_cons_zero]; show Sem.run Tryz.prog (Instr.loadAt 162 (.pointer (some ⟨t, 2, none⟩)) >>= fun u => pure (Next.value u)) w = _; rw [Sem.run_bind, hl]; rfl)
  simp only [List.getElem_toArray, List.getElem_cons_succ, List.getElem_cons_zero, Act.put, List.setIfInBounds_toArray, List.set_cons_zero, List.set_cons_succ]
  refine wpAnyT_take (i := 17) (v := ?v17) rfl (by kernel_rfl) (by kernel_rfl) (by kernel_rfl) (by kernel_rfl) (fun _ _ _ h => h) (Or.inl ⟨by rfl, ?y17⟩) hS ?_
  case y17 => (intro w hSw; (try dsimp only at hSw); go_simp; (try with_reducible rfl))
  simp only [List.getElem_toArray, List.getElem_cons_succ, List.getElem_cons_zero, Act.put, List.setIfInBounds_toArray, List.set_cons_zero, List.set_cons_succ]
  refine wpAnyT_one (i := 18) (by kernel_rfl) rfl (fun K hK => ?_)
  go_simp
  refine hK.out _ _ (.inr ⟨cell_ad e5 _, cell_ad j2 _, cell_ad u1 _, range_ad r2 _⟩) ?_
  clear hK K
  refine wpAnyT_one (i := 19) (by kernel_rfl) rfl (fun K hK => ?_)
  refine step_append2 (by rfl) (.tmp 111) (.tmp 125) 160 (by rfl) B 189 ti _ 22 176 Tryz.underlying160 HI.out HZ.out.1 HZ.out.2.1 HZ.out.2.2 rfl (by decide) v5 nL xs (by rfl) (HO2.out.alloc _).drew ⟨w2.heap.size, 0, none⟩ 1 1 (tf ot tk x) (by rfl) rfl (news_cells w2 _ _ _ rfl) HT.out (by unfold maxLen; omega) (by omega) (Nat.le_trans hB2.out (by simp)) (by decide) ?_
  intro g' c' w3 hown3 hgrow hor
  have S3 : (fun w' : World => w'.cell? ⟨f, 5, none⟩ = some v5 ∧ w'.cell? ⟨g, a * 9 + 2, none⟩ = some (.int .i64 ot) ∧ w'.cell? ⟨t, 1, none⟩ = some (.int .i64 tk) ∧ w'.rangeAt t 2 (nf x)) w3 := ⟨grown_cell' hgrow hf5 (cell_ad e5 _), grown_cell' hgrow hg5 (cell_ad j2 _), grown_cell' hgrow ht5 (cell_ad u1 _), rangeAt_grown (range_ad r2 _) hgrow ht5⟩
  have J1 := hid (grown_cell' hgrow hg5 (cell_ad j1.out _))
  have U0 := hid (grown_cell' hgrow ht5 (cell_ad u0.out _))
  have UF := hid ((grown_free' hgrow (p := ⟨t, 0, none⟩) ht5 (World.block_lt_of_cell? _ _ (cell_ad u0.out _))).trans (free_ad u0.out uf.out _))
  refine hK.out _ _ (.inr S3) ?_
  clear hK K
  refine wpAnyT_one (i := 20) (by kernel_rfl) rfl (fun K hK => ?_)
  go_simp
  refine hK.out _ _ (.inr S3) ?_
  clear hK K
  refine wpAnyT_one (i := 21) (by kernel_rfl) rfl (fun K hK => ?_)
  go_simp
  refine hK.out _ _ (.inr S3) ?_
  clear hK K
  have c5' := S3.1
  have f5' := (grown_free' hgrow (p := ⟨f, 5, none⟩) hf5 (World.block_lt_of_cell? _ _ (cell_ad e5 _))).trans (free_ad e5 ef5 _)
  have HG := hid (And.intro hown3 (And.intro hgrow hor))
  clear hown3 hgrow hor S3 hS e5 ef5 j2 u1 r2
  refine wpAnyT_one (i := 22) (by kernel_rfl) rfl (fun K hK => ?_)
  go_simp
  refine hK.out _ _ (.inl rfl) ?_
  clear hK K
  refine wpAnyT_done (by kernel_rfl) ?_ _
  refine NoPanic.normal ?_
  have ps := step_postQ HC5.out k2 HO2.out HG.out.1 HG.out.2.1 HG.out.2.2 hf5 c5'
  have m1 := (cell_other (w := w3) (a := ⟨f, 5, none⟩) (c := ⟨g, a * 9 + 1, none⟩) (.slice (some ⟨g', 0, none⟩) (nL + 1) c') (fun e => by injection e with e1 _ _; exact hgf e1.symm)).trans J1.out
  have m0 := (cell_other (w := w3) (a := ⟨f, 5, none⟩) (c := ⟨t, 0, none⟩) (.slice (some ⟨g', 0, none⟩) (nL + 1) c') (fun e => by injection e with e1 _ _; exact htf e1.symm)).trans U0.out
  have mf : (w3.setCell ⟨f, 5, none⟩ (.slice (some ⟨g', 0, none⟩) (nL + 1) c')).frozen? ⟨t, 0, none⟩ = false := by simpa using UF.out
  have PS := hid ps
  clear ps
  generalize w3.setCell ⟨f, 5, none⟩ (.slice (some ⟨g', 0, none⟩) (nL + 1) c') = w4 at *
  clear c5' f5' J1 U0 UF
  go_wp2
  go_ret
  exact ⟨rfl, w4, rfl, PS.out⟩
end Go.Proofs.YtonnimbcekhbgaaGreatDoor
