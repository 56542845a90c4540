/- One text out of several: O Q. -/
import Derived.Test.YtonnimbcekhbgaaGreatDoorIToK
import Derived.Test.YtonnimbcekhbgaaGreatDoorERToES

/- The finder: one instruction that takes a byte. -/
namespace Go.Proofs.YtonnimbcekhbgaaGreatDoor
open Go.RowKit

theorem Tryz.infoThread : (Tryz.prog.info? 189).map (fun i => (i.size, i.bytes)) = some (22, 176) := by kernel_rfl
theorem Tryz.infoThread0 : (Tryz.prog.info? 189).map (fun i => (i.zero, i.size, i.bytes)) = some (some (.agg (Array.replicate 22 (.int .i64 0))), 22, 176) := by kernel_rfl

set_option maxRecDepth 100000 in
set_option maxHeartbeats 2000000 in
/-- No byte of the set stands there, or none at all. -/
theorem step_byte_end {w : World} {f p t g n c a pl : Nat} {text : ByteArray}
    (c0 : w.cell? ⟨f, 0, none⟩ = some (.pointer (some ⟨p, 0, none⟩))) (c1 : w.cell? ⟨f, 1, none⟩ = some (.string text)) (c2 : w.cell? ⟨f, 2, none⟩ = some (.int .i64 pl))
    (p0 : w.cell? ⟨p, 0, none⟩ = some (.slice (some ⟨g, 0, none⟩) n c)) (t0 : w.cell? ⟨t, 0, none⟩ = some (.int .i64 a)) (ha : a < n)
    (i0 : w.cell? ⟨g, a * 9, none⟩ = some (.int .i64 0)) (hlt : decide (pl < text.size) = false) :
    Calls Tryz.prog 166 #[.pointer (some ⟨f, 0, none⟩), .pointer (some ⟨t, 0, none⟩)] w fun e w' => e = .returned (.bool false) ∧ Kp [] w w' := by
  go_enter Tryz.func166, Tryz.ntmps166
  go_wp2
  go_quiet (fail)
  go_wp2
  go_quiet (fail)
  go_wp2
  go_ret
  exact ⟨rfl, (Kp.drewN _ _ _).trans (Kp.drewN _ _ _)⟩

/-- The worlds in which all that was there is as it was. -/
structure Ext (W : World) where
  val : World
  ok : Kp [] W val

/-- A region that draws its order, whose operations read and whose callees make memory at most: one walk serves every order. -/
theorem wp_region_ext {P : Program} {id : Nat} {Q : Exit → Act → World → Prop} {a : Act} {w : World} {l : List Oper} (hm : P.follows .mixedOrders = true) (hB : Region.lexB .any l.toArray = true)
    (h : wpQuiet P l.toArray (fun w' => ∃ x : Ext w, w' = x.val) (fun a' => ∀ w', (∃ x : Ext w, w' = x.val) → Q .normal a' w') l a) : (Code.region id l.toArray true).wp P Q a w :=
  wp_region_quiet (C := fun w' => ∃ x : Ext w, w' = x.val) hm hB ⟨⟨w.drew, Kp.drew _ _⟩, rfl⟩ (by simpa using h)

theorem Ext.cell {W : World} {a : Addr} {v : Value} (h : W.cell? a = some v) : ∀ x : Ext W, x.val.cell? a = some v := fun x => (x.ok.cell (World.block_lt_of_cell? _ _ h) (by simp)).trans h

theorem has_ext (m : Nat → Bool) (y : Nat) (hy : y < 256) {b : Bool} (hb : m y = b) {W : World} (x : Ext W) :
    Calls Tryz.prog 170 #[setV m, .int .u8 y] x.val fun e w'' => e = .returned (.bool b) ∧ ∃ z : Ext W, w'' = z.val := by
  subst hb
  exact (has_any m y hy x.val).mono fun e w'' ⟨he, k⟩ => ⟨he, ⟨w'', x.ok.trans k⟩, rfl⟩

set_option maxRecDepth 100000 in
set_option maxHeartbeats 2000000 in
theorem step_byte_miss {w : World} {f p t g n c a pl : Nat} {text : ByteArray} {m : Nat → Bool}
    (c0 : w.cell? ⟨f, 0, none⟩ = some (.pointer (some ⟨p, 0, none⟩))) (c1 : w.cell? ⟨f, 1, none⟩ = some (.string text)) (c2 : w.cell? ⟨f, 2, none⟩ = some (.int .i64 pl))
    (p0 : w.cell? ⟨p, 0, none⟩ = some (.slice (some ⟨g, 0, none⟩) n c)) (t0 : w.cell? ⟨t, 0, none⟩ = some (.int .i64 a)) (ha : a < n)
    (i0 : w.cell? ⟨g, a * 9, none⟩ = some (.int .i64 0)) (i5 : w.cell? ⟨g, a * 9 + 5, none⟩ = some (.int .u64 (wd m 0))) (i6 : w.cell? ⟨g, a * 9 + 5 + 1, none⟩ = some (.int .u64 (wd m 1)))
    (i7 : w.cell? ⟨g, a * 9 + 5 + 2, none⟩ = some (.int .u64 (wd m 2))) (i8 : w.cell? ⟨g, a * 9 + 5 + 3, none⟩ = some (.int .u64 (wd m 3)))
    (hlt : pl < text.size) (hm : m (text[pl]).toNat = false) :
    Calls Tryz.prog 166 #[.pointer (some ⟨f, 0, none⟩), .pointer (some ⟨t, 0, none⟩)] w fun e w' => e = .returned (.bool false) ∧ Kp [] w w' := by
  have HM := hid hm
  clear hm
  go_enter Tryz.func166, Tryz.ntmps166
  go_wp2
  go_quiet (fail)
  go_wp2
  generalize hw1 : w.drewN nq = w1
  have k1 : Kp [] w w1 := by rw [← hw1]; exact Kp.drewN _ _ _
  clear hw1
  have d1 := Ext.cell ((k1.cell (World.block_lt_of_cell? _ _ c1) (by simp)).trans c1)
  have d2 := Ext.cell ((k1.cell (World.block_lt_of_cell? _ _ c2) (by simp)).trans c2)
  have d5 := Ext.cell ((k1.cell (World.block_lt_of_cell? _ _ i5) (by simp)).trans i5)
  have d6 := Ext.cell ((k1.cell (World.block_lt_of_cell? _ _ i6) (by simp)).trans i6)
  have d7 := Ext.cell ((k1.cell (World.block_lt_of_cell? _ _ i7) (by simp)).trans i7)
  have d8 := Ext.cell ((k1.cell (World.block_lt_of_cell? _ _ i8) (by simp)).trans i8)
  clear c0 c1 c2 p0 t0 i0 i5 i6 i7 i8
  have hne : Nonempty (Ext w1) := ⟨⟨w1, Kp.refl _ _⟩⟩
  refine wp_region_ext (by kernel_rfl) (by kernel_rfl) ?_
  repeat (refine wpQuiet_step (fun K hK => ?_); go_simp; first | (refine hK _ ?_; clear hK K) | (apply Exists.intro; refine ⟨fun x => ?_, hK _ ?_⟩; exact has_ext m _ (UInt8.toNat_lt _) HM.out x; clear hK K))
  refine wpQuiet_nil ?_
  intro w' hw'
  obtain ⟨x, hx⟩ := hw'
  subst hx
  go_wp2
  go_ret
  exact ⟨rfl, k1.trans x.ok⟩
end Go.Proofs.YtonnimbcekhbgaaGreatDoor

/- The finder: an instruction that takes the byte that stands there. -/
namespace Go.Proofs.YtonnimbcekhbgaaGreatDoor
open Go.RowKit

/-- A thread's cells. -/
abbrev th (next depth x : Int) : List Value := .int .i64 next :: .int .i64 depth :: notesV x

theorem th_one (next depth x : Int) : ∀ u ∈ th next depth x, u.oneCell' = true := by
  intro u hu
  simp only [th, notesV, List.mem_cons, List.not_mem_nil, or_false] at hu
  rcases hu with h | h | h | h | h | h | h | h | h | h | h | h | h | h | h | h | h | h | h | h | h | h <;> subst h <;> rfl

theorem Tryz.infoTh : (Tryz.prog.info? 189).map (fun i => (i.zero, i.size, i.bytes)) = some (some (.agg #[.int .i64 0, .int .i64 0, .int .i64 0, .int .i64 0, .int .i64 0, .int .i64 0, .int .i64 0, .int .i64 0, .int .i64 0, .int .i64 0, .int .i64 0, .int .i64 0, .int .i64 0, .int .i64 0, .int .i64 0, .int .i64 0, .int .i64 0, .int .i64 0, .int .i64 0, .int .i64 0, .int .i64 0, .int .i64 0]), 22, 176) := by kernel_rfl

theorem grown_cell' {W w' : World} {row : Option Nat} (hg : W.grownBy w' row) {p : Addr} (hp : some p.block ≠ row) {v : Value} (h : W.cell? p = some v) : w'.cell? p = some v :=
  (World.cell?_of_block (w := W) (hg.block p.block (World.block_lt_of_cell? _ _ h) hp)).trans h
theorem grown_free' {W w' : World} {row : Option Nat} (hg : W.grownBy w' row) {p : Addr} (hp : some p.block ≠ row) (hl : p.block < W.heap.size) : w'.frozen? p = W.frozen? p :=
  World.frozen?_of_block (w := W) (hg.block p.block hl hp)
theorem rangeAt_keep {S : List Nat} {w w' : World} {b o : Nat} {cs : List Value} (h : w.rangeAt b o cs) (k : Kp S w w') (hb : b ∉ S) : w'.rangeAt b o cs :=
  fun j v hv => (k.cell (World.block_lt_of_cell? _ _ (h j v hv)) hb).trans (h j v hv)
theorem rangeAt_grown {W w' : World} {row : Option Nat} {b o : Nat} {cs : List Value} (h : W.rangeAt b o cs) (hg : W.grownBy w' row) (hp : some b ≠ row) : w'.rangeAt b o cs :=
  fun j v hv => grown_cell' hg hp (h j v hv)

theorem ownsRow_setCell_far {w : World} {base size n : Nat} {e : TypeId} {g c : Nat} {xs : List Value} (h : w.ownsRow base e size (.slice (some ⟨g, 0, none⟩) n c) n xs) {a : Addr} (ha : g ≠ a.block) {u : Value} : (w.setCell a u).ownsRow base e size (.slice (some ⟨g, 0, none⟩) n c) n xs := by
  refine ⟨h.1, ?_⟩
  rcases h.2 with q | ⟨g', cap, cur, q1, q2, q3, q4⟩
  · exact .inl q
  · refine .inr ⟨g', cap, cur, q1, q2, ?_, q4⟩
    have e : g = g' := by simp at q1; exact q1.1
    rw [Below.heap_setCell _ _ _ _ (e ▸ ha)]; exact q3

theorem cell_ad {w : World} {a : Addr} {v : Value} (h : w.cell? a = some v) (o : Obj) : (w.alloc o).drew.cell? a = some v :=
  ((Kp.alloc [] w o).cell (World.block_lt_of_cell? _ _ h) (by simp)).trans h
theorem free_ad {w : World} {a : Addr} {v : Value} (hc : w.cell? a = some v) (h : w.frozen? a = false) (o : Obj) : (w.alloc o).drew.frozen? a = false :=
  ((Kp.alloc [] w o).frozen (World.block_lt_of_cell? _ _ hc) (by simp)).trans h
theorem range_ad {w : World} {b k : Nat} {cs : List Value} (h : w.rangeAt b k cs) (o : Obj) : (w.alloc o).drew.rangeAt b k cs := fun j v hv => cell_ad (h j v hv) o

/-- All blocks that were there but f and one more are as they were; of f all cells but number 4. -/
structure Hit (f : Nat) (row : Option Nat) (w w' : World) : Prop where
  os : w'.os = w.os
  tape : w'.tape = w.tape
  output : w'.output = w.output
  size : w.heap.size ≤ w'.heap.size
  block : ∀ k, k < w.heap.size → k ≠ f → some k ≠ row → w'.heap[k]? = w.heap[k]?
  cell : ∀ i, i ≠ 4 → w'.cell? ⟨f, i, none⟩ = w.cell? ⟨f, i, none⟩
  free : ∀ i, w'.frozen? ⟨f, i, none⟩ = w.frozen? ⟨f, i, none⟩

theorem step_post {w w2 w3 : World} {f B nA g' c' : Nat} {v4 : Value} {xs ys : List Value} {o : Obj} (hc : w.cell? ⟨f, 4, none⟩ = some v4) (k2 : Kp [] w w2) (_ho : w2.ownsRow B 189 22 v4 nA xs)
    (hown : w3.ownsRow B 189 22 (.slice (some ⟨g', 0, none⟩) (nA + 1) c') (nA + 1) ys) (hg : ((w2.alloc o).drew).grownBy w3 v4.ownBlock) (hor : v4.ownBlock = some g' ∨ ((w2.alloc o).drew).heap.size ≤ g')
    (hf4 : some f ≠ v4.ownBlock) (hc3 : w3.cell? ⟨f, 4, none⟩ = some v4) :
    ∃ g c, (w3.setCell ⟨f, 4, none⟩ (.slice (some ⟨g', 0, none⟩) (nA + 1) c')).cell? ⟨f, 4, none⟩ = some (.slice (some ⟨g, 0, none⟩) (nA + 1) c) ∧
      (w3.setCell ⟨f, 4, none⟩ (.slice (some ⟨g', 0, none⟩) (nA + 1) c')).ownsRow B 189 22 (.slice (some ⟨g, 0, none⟩) (nA + 1) c) (nA + 1) ys ∧ (v4.ownBlock = some g ∨ w.heap.size ≤ g) ∧
      Hit f v4.ownBlock w (w3.setCell ⟨f, 4, none⟩ (.slice (some ⟨g', 0, none⟩) (nA + 1) c')) := by
  have hlt := World.block_lt_of_cell? _ _ hc
  have kW : Kp [] w ((w2.alloc o).drew) := k2.trans ((Kp.alloc _ _ _).trans (Kp.drew _ _))
  have hz := kW.size
  have hgf : g' ≠ f := fun e => by
    rcases hor with h | h
    · rw [h, e] at hf4; exact hf4 rfl
    · rw [e] at h; have := hlt; simp at this; omega
  refine ⟨g', c', cell_same _ hc3, ?_, hor.imp id (fun h => Nat.le_trans hz h), ?_⟩
  · exact ownsRow_setCell_far hown hgf
  · refine ⟨hg.os.trans kW.os, hg.tape.trans kW.tape, hg.output.trans kW.output, ?_, fun k hk hkf hkr => ?_, fun i hi => ?_, fun i => ?_⟩
    · have := hg.size; simp [World.setCell] at this ⊢; have := k2.size; omega
    · rw [Below.heap_setCell _ _ _ _ hkf]
      exact (hg.block k (Nat.lt_of_lt_of_le hk hz) hkr).trans (kW.block k hk (by simp))
    · rw [cell_other _ (fun h => hi (by injection h with _ h2 _; exact h2.symm))]
      exact (World.cell?_of_block (w := (w2.alloc o).drew) (hg.block f (Nat.lt_of_lt_of_le hlt hz) hf4)).trans (kW.cell hlt (by simp))
    · have h1 : (w3.setCell ⟨f, 4, none⟩ (.slice (some ⟨g', 0, none⟩) (nA + 1) c')).frozen? ⟨f, i, none⟩ = w3.frozen? ⟨f, i, none⟩ := by simp
      rw [h1]
      exact (grown_free' hg (p := ⟨f, i, none⟩) hf4 (Nat.lt_of_lt_of_le hlt hz)).trans (kW.frozen hlt (by simp))

set_option maxRecDepth 100000 in
set_option maxHeartbeats 4000000 in
theorem step_byte_hit {w : World} {f p t g n c a pl B nA : Nat} {text : ByteArray} {m : Nat → Bool} {v4 : Value} {xs : List Value} {nx dp x : Int}
    (c0 : w.cell? ⟨f, 0, none⟩ = some (.pointer (some ⟨p, 0, none⟩))) (c1 : w.cell? ⟨f, 1, none⟩ = some (.string text)) (c2 : w.cell? ⟨f, 2, none⟩ = some (.int .i64 pl))
    (c4 : w.cell? ⟨f, 4, none⟩ = some v4) (f4 : w.frozen? ⟨f, 4, none⟩ = false) (hown : w.ownsRow B 189 22 v4 nA xs) (hB : B ≤ w.heap.size) (hf4 : some f ≠ v4.ownBlock) (hg4 : some g ≠ v4.ownBlock) (ht4 : some t ≠ v4.ownBlock) (hnA : nA ≤ 100000)
    (p0 : w.cell? ⟨p, 0, none⟩ = some (.slice (some ⟨g, 0, none⟩) n c)) (t0 : w.cell? ⟨t, 0, none⟩ = some (.int .i64 a)) (hr : w.rangeAt t 2 (notesV x)) (ha : a < n)
    (i0 : w.cell? ⟨g, a * 9, none⟩ = some (.int .i64 0)) (i1 : w.cell? ⟨g, a * 9 + 1, none⟩ = some (.int .i64 nx)) (i4 : w.cell? ⟨g, a * 9 + 4, none⟩ = some (.int .i64 dp))
    (i5 : w.cell? ⟨g, a * 9 + 5, none⟩ = some (.int .u64 (wd m 0))) (i6 : w.cell? ⟨g, a * 9 + 5 + 1, none⟩ = some (.int .u64 (wd m 1)))
    (i7 : w.cell? ⟨g, a * 9 + 5 + 2, none⟩ = some (.int .u64 (wd m 2))) (i8 : w.cell? ⟨g, a * 9 + 5 + 3, none⟩ = some (.int .u64 (wd m 3)))
    (hlt : pl < text.size) (hm : m (text[pl]).toNat = true) :
    Calls Tryz.prog 166 #[.pointer (some ⟨f, 0, none⟩), .pointer (some ⟨t, 0, none⟩)] w fun e w' => e = .returned (.bool false) ∧
      ∃ g' c', w'.cell? ⟨f, 4, none⟩ = some (.slice (some ⟨g', 0, none⟩) (nA + 1) c') ∧ w'.ownsRow B 189 22 (.slice (some ⟨g', 0, none⟩) (nA + 1) c') (nA + 1) (xs ++ th nx dp x) ∧ (v4.ownBlock = some g' ∨ w.heap.size ≤ g') ∧
        Hit f v4.ownBlock w w' := by
  have HM := hid hm
  obtain ⟨ti, hi, hz0, hz1, hz2⟩ := info_parts Tryz.infoTh
  have HI := hid hi
  have HZ := hid (And.intro hz0 (And.intro hz1 hz2))
  clear hm hi hz0 hz1 hz2
  go_enter Tryz.func166, Tryz.ntmps166
  go_wp2
  go_quiet (fail)
  go_wp2
  generalize hw1 : w.drewN nq = w1
  have k1 : Kp [] w w1 := by rw [← hw1]; exact Kp.drewN _ _ _
  clear hw1
  have d1 := Ext.cell ((k1.cell (World.block_lt_of_cell? _ _ c1) (by simp)).trans c1)
  have d2 := Ext.cell ((k1.cell (World.block_lt_of_cell? _ _ c2) (by simp)).trans c2)
  have d5 := Ext.cell ((k1.cell (World.block_lt_of_cell? _ _ i5) (by simp)).trans i5)
  have d6 := Ext.cell ((k1.cell (World.block_lt_of_cell? _ _ i6) (by simp)).trans i6)
  have d7 := Ext.cell ((k1.cell (World.block_lt_of_cell? _ _ i7) (by simp)).trans i7)
  have d8 := Ext.cell ((k1.cell (World.block_lt_of_cell? _ _ i8) (by simp)).trans i8)
  have C4 := hid c4
  have F4 := hid f4
  have HO := hid hown
  have HR := hid hr
  have I1 := hid i1
  have I4 := hid i4
  clear c0 c1 c2 p0 t0 i0 i1 i4 i5 i6 i7 i8 c4 f4 hown hr
  have hne : Nonempty (Ext w1) := ⟨⟨w1, Kp.refl _ _⟩⟩
  refine wp_region_ext (by kernel_rfl) (by kernel_rfl) ?_
  repeat (refine wpQuiet_step (fun K hK => ?_); go_simp; first | (refine hK _ ?_; clear hK K) | (apply Exists.intro; refine ⟨fun x => ?_, hK _ ?_⟩; exact has_ext m _ (UInt8.toNat_lt _) HM.out x; clear hK K))
  refine wpQuiet_nil ?_
  intro w' hw'
  obtain ⟨y, hy⟩ := hw'
  subst hy
  have k2 : Kp [] w y.val := k1.trans y.ok
  generalize y.val = w2 at *
  clear d1 d2 d5 d6 d7 d8 hne
  go_wp2
  have e4 := (k2.cell (World.block_lt_of_cell? _ _ C4.out) (by simp)).trans C4.out
  have ef4 := (k2.frozen (p := ⟨f, 4, none⟩) (World.block_lt_of_cell? _ _ C4.out) (by simp)).trans F4.out
  have j1 := (k2.cell (World.block_lt_of_cell? _ _ I1.out) (by simp)).trans I1.out
  have j4 := (k2.cell (World.block_lt_of_cell? _ _ I4.out) (by simp)).trans I4.out
  have r2 := rangeAt_keep HR.out k2 (by simp)
  have HO2 := hid (ownsRow_keep HO.out k2 (by simp))
  have hB2 := hid (Nat.le_trans hB k2.size)
  have HT := hid (th_one nx dp x)
  refine wp_region_noPanic ?_
  refine wp_region_T (fun w' => w'.cell? ⟨f, 4, none⟩ = some v4 ∧ w'.cell? ⟨g, a * 9 + 1, none⟩ = some (.int .i64 nx) ∧ w'.cell? ⟨g, a * 9 + 4, none⟩ = some (.int .i64 dp) ∧ w'.rangeAt t 2 (notesV x)) 22 (by kernel_rfl) ?_
  have hS : (fun w' : World => w'.cell? ⟨f, 4, none⟩ = some v4 ∧ w'.cell? ⟨g, a * 9 + 1, none⟩ = some (.int .i64 nx) ∧ w'.cell? ⟨g, a * 9 + 4, none⟩ = some (.int .i64 dp) ∧ w'.rangeAt t 2 (notesV x)) w2.drew := ⟨e4, j1, j4, r2⟩
  refine wpAnyT_take (i := 0) (v := ?v0) rfl (by kernel_rfl) (by kernel_rfl) (by kernel_rfl) (by kernel_rfl) (fun _ _ _ h => h) (Or.inl ⟨by rfl, ?y0⟩) hS ?_
  case y0 => (intro w hSw; (try dsimp only at hSw); go_simp; (try with_reducible rfl))
  simp only [List.getElem_toArray, List.getElem_cons_zero, Act.put, List.setIfInBounds_toArray, List.set_cons_zero, List.set_cons_succ]
  refine wpAnyT_take (i := 1) (v := ?v1) rfl (by kernel_rfl) (by kernel_rfl) (by kernel_rfl) (by kernel_rfl) (fun _ _ _ h => h) (Or.inl ⟨by rfl, ?y1⟩) hS ?_
  case y1 => (intro w hSw; (try dsimp only at hSw); go_simp; (try with_reducible rfl))
  simp only [List.getElem_toArray, List.getElem_cons_succ, List.getElem_cons_zero, Act.put, List.setIfInBounds_toArray, List.set_cons_zero, List.set_cons_succ]
  refine wpAnyT_take (i := 2) (v := ?v2) rfl (by kernel_rfl) (by kernel_rfl) (by kernel_rfl) (by kernel_rfl) (fun _ _ _ h => h) (Or.inl ⟨by rfl, ?y2⟩) hS ?_
  case y2 => (intro w hSw; (try dsimp only at hSw); go_simp; (try with_reducible rfl))
  simp only [List.getElem_toArray, List.getElem_cons_succ, List.getElem_cons_zero, Act.put, List.setIfInBounds_toArray, List.set_cons_zero, List.set_cons_succ]
  refine wpAnyT_take (i := 3) (v := ?v3) rfl (by kernel_rfl) (by kernel_rfl) (by kernel_rfl) (by kernel_rfl) (fun _ _ _ h => h) (Or.inl ⟨by rfl, ?y3⟩) hS ?_
  case y3 => (intro w hSw; (try dsimp only at hSw); go_simp; (try with_reducible rfl))
  simp only [List.getElem_toArray, List.getElem_cons_succ, List.getElem_cons_zero, Act.put, List.setIfInBounds_toArray, List.set_cons_zero, List.set_cons_succ]
  refine wpAnyT_take (i := 4) (v := ?v4) rfl (by kernel_rfl) (by kernel_rfl) (by kernel_rfl) (by kernel_rfl) (fun _ _ _ h => h) (Or.inl ⟨by rfl, ?y4⟩) hS ?_
  case y4 => (intro w hSw; (try dsimp only at hSw); go_simp; (try with_reducible rfl))
  simp only [List.getElem_toArray, List.getElem_cons_succ, List.getElem_cons_zero, Act.put, List.setIfInBounds_toArray, List.set_cons_zero, List.set_cons_succ]
  refine wpAnyT_take (i := 5) (v := ?v5) rfl (by kernel_rfl) (by kernel_rfl) (by kernel_rfl) (by kernel_rfl) (fun _ _ _ h => h) (Or.inl ⟨by rfl, ?y5⟩) hS ?_
  case y5 => (intro w hSw; (try dsimp only at hSw); go_simp; (try with_reducible rfl))
  simp only [List.getElem_toArray, List.getElem_cons_succ, List.getElem_cons_zero, Act.put, List.setIfInBounds_toArray, List.set_cons_zero, List.set_cons_succ]
  refine wpAnyT_take (i := 6) (v := ?v6) rfl (by kernel_rfl) (by kernel_rfl) (by kernel_rfl) (by kernel_rfl) (fun _ _ _ h => h) (Or.inl ⟨by rfl, ?y6⟩) hS ?_
  case y6 => (intro w hSw; (try dsimp only at hSw); go_simp; (try with_reducible rfl))
  simp only [List.getElem_toArray, List.getElem_cons_succ, List.getElem_cons_zero, Act.put, List.setIfInBounds_toArray, List.set_cons_zero, List.set_cons_succ]
  refine wpAnyT_take (i := 7) (v := ?v7) rfl (by kernel_rfl) (by kernel_rfl) (by kernel_rfl) (by kernel_rfl) (fun _ _ _ h => h) (Or.inl ⟨by rfl, ?y7⟩) hS ?_
  case y7 => (intro w hSw; (try dsimp only at hSw); go_simp; (try with_reducible rfl))
  simp only [List.getElem_toArray, List.getElem_cons_succ, List.getElem_cons_zero, Act.put, List.setIfInBounds_toArray, List.set_cons_zero, List.set_cons_succ]
  refine wpAnyT_take (i := 8) (v := ?v8) rfl (by kernel_rfl) (by kernel_rfl) (by kernel_rfl) (by kernel_rfl) (fun _ _ _ h => h) (Or.inl ⟨by rfl, ?y8⟩) hS ?_
  case y8 => (intro w hSw; (try dsimp only at hSw); go_simp; (try with_reducible rfl))
  simp only [List.getElem_toArray, List.getElem_cons_succ, List.getElem_cons_zero, Act.put, List.setIfInBounds_toArray, List.set_cons_zero, List.set_cons_succ]
  refine wpAnyT_take (i := 9) (v := ?v9) rfl (by kernel_rfl) (by kernel_rfl) (by kernel_rfl) (by kernel_rfl) (fun _ _ _ h => h) (Or.inl ⟨by rfl, ?y9⟩) hS ?_
  case y9 => (intro w hSw; (try dsimp only at hSw); go_simp; (try with_reducible rfl))
  simp only [List.getElem_toArray, List.getElem_cons_succ, List.getElem_cons_zero, Act.put, List.setIfInBounds_toArray, List.set_cons_zero, List.set_cons_succ]
  refine wpAnyT_take (i := 10) (v := ?v10) rfl (by kernel_rfl) (by kernel_rfl) (by kernel_rfl) (by kernel_rfl) (fun _ _ _ h => h) (Or.inl ⟨by rfl, ?y10⟩) hS ?_
  case y10 => (intro w hSw; (try dsimp only at hSw); go_simp; (try with_reducible rfl))
  simp only [List.getElem_toArray, List.getElem_cons_succ, List.getElem_cons_zero, Act.put, List.setIfInBounds_toArray, List.set_cons_zero, List.set_cons_succ]
  refine wpAnyT_take (i := 11) (v := ?v11) rfl (by kernel_rfl) (by kernel_rfl) (by kernel_rfl) (by kernel_rfl) (fun _ _ _ h => h) (Or.inl ⟨by rfl, ?y11⟩) hS ?_
  case y11 => (intro w hSw; (try dsimp only at hSw); go_simp; (try with_reducible rfl))
  simp only [List.getElem_toArray, List.getElem_cons_succ, List.getElem_cons_zero, Act.put, List.setIfInBounds_toArray, List.set_cons_zero, List.set_cons_succ]
  refine wpAnyT_take (i := 12) (v := ?v12) rfl (by kernel_rfl) (by kernel_rfl) (by kernel_rfl) (by kernel_rfl) (fun _ _ _ h => h) (Or.inl ⟨by rfl, ?y12⟩) hS ?_
  case y12 => (intro w hSw; (try dsimp only at hSw); go_simp; (try with_reducible rfl))
  simp only [List.getElem_toArray, List.getElem_cons_succ, List.getElem_cons_zero, Act.put, List.setIfInBounds_toArray, List.set_cons_zero, List.set_cons_succ]
  refine wpAnyT_take (i := 13) (v := ?v13) rfl (by kernel_rfl) (by kernel_rfl) (by kernel_rfl) (by kernel_rfl) (fun _ _ _ h => h) (Or.inl ⟨by rfl, ?y13⟩) hS ?_
  case y13 => (intro w hSw; (try dsimp only at hSw); go_simp; (try with_reducible rfl))
  simp only [List.getElem_toArray, List.getElem_cons_succ, List.getElem_cons_zero, Act.put, List.setIfInBounds_toArray, List.set_cons_zero, List.set_cons_succ]
  refine wpAnyT_take (i := 14) (v := ?v14) rfl (by kernel_rfl) (by kernel_rfl) (by kernel_rfl) (by kernel_rfl) (fun _ _ _ h => h) (Or.inl ⟨by rfl, ?y14⟩) hS ?_
  case y14 => (intro w hSw; (try dsimp only at hSw); go_simp; (try with_reducible rfl))
  simp only [List.getElem_toArray, List.getElem_cons_succ, List.getElem_cons_zero, Act.put, List.setIfInBounds_toArray, List.set_cons_zero, List.set_cons_succ]
  refine wpAnyT_take (i := 15) (v := ?v15) rfl (by kernel_rfl) (by kernel_rfl) (by kernel_rfl) (by kernel_rfl) (fun _ _ _ h => h) (Or.inl ⟨by rfl, ?y15⟩) hS ?_
  case y15 => (intro w hSw; (try dsimp only at hSw); go_simp; (try with_reducible rfl))
  simp only [List.getElem_toArray, List.getElem_cons_succ, List.getElem_cons_zero, Act.put, List.setIfInBounds_toArray, List.set_cons_zero, List.set_cons_succ]
  refine wpAnyT_take (i := 16) (v := .agg (notesV x).toArray) rfl (by kernel_rfl) (by kernel_rfl) (by kernel_rfl) (by kernel_rfl) (fun _ _ _ h => h) (Or.inl ⟨by rfl, ?y16⟩) hS ?_
  case y16 => (intro w hw; have hl := run_loadAt_mid (P := Tryz.prog) w t 2 162 (notesV x) _ hw.2.2.2 Tryz.underlying162 rfl Tryz.szNotes; clear hw; simp only [execOp, List.getElem_toArray, List.getElem_cons_succ, List.getElem_cons_zero]; show Sem.run Tryz.prog (Instr.loadAt 162 (.pointer (some ⟨t, 2, none⟩)) >>= fun u => pure (Next.value u)) w = _; rw [Sem.run_bind, hl]; rfl)
  simp only [List.getElem_toArray, List.getElem_cons_succ, List.getElem_cons_zero, Act.put, List.setIfInBounds_toArray, List.set_cons_zero, List.set_cons_succ]
  refine wpAnyT_take (i := 17) (v := ?v17) rfl (by kernel_rfl) (by kernel_rfl) (by kernel_rfl) (by kernel_rfl) (fun _ _ _ h => h) (Or.inl ⟨by rfl, ?y17⟩) hS ?_
  case y17 => (intro w hSw; (try dsimp only at hSw); go_simp; (try with_reducible rfl))
  simp only [List.getElem_toArray, List.getElem_cons_succ, List.getElem_cons_zero, Act.put, List.setIfInBounds_toArray, List.set_cons_zero, List.set_cons_succ]
  refine wpAnyT_one (i := 18) (by kernel_rfl) rfl (fun K hK => ?_)
  go_simp
  refine hK.out _ _ (.inr ⟨cell_ad e4 _, cell_ad j1 _, cell_ad j4 _, range_ad r2 _⟩) ?_
  clear hK K
  refine wpAnyT_one (i := 19) (by kernel_rfl) rfl (fun K hK => ?_)
  refine step_append2 (by rfl) (.tmp 54) (.tmp 68) 160 (by rfl) B 189 ti _ 22 176 Tryz.underlying160 HI.out HZ.out.1 HZ.out.2.1 HZ.out.2.2 rfl (by decide) v4 nA xs (by rfl) (HO2.out.alloc _).drew ⟨w2.heap.size, 0, none⟩ 1 1 (th nx dp x) (by rfl) rfl (news_cells w2 _ _ _ rfl) HT.out (by unfold maxLen; omega) (by omega) (Nat.le_trans hB2.out (by simp)) (by decide) ?_
  intro g' c' w3 hown3 hgrow hor
  have S3 : (fun w' : World => w'.cell? ⟨f, 4, none⟩ = some v4 ∧ w'.cell? ⟨g, a * 9 + 1, none⟩ = some (.int .i64 nx) ∧ w'.cell? ⟨g, a * 9 + 4, none⟩ = some (.int .i64 dp) ∧ w'.rangeAt t 2 (notesV x)) w3 := ⟨grown_cell' hgrow hf4 (cell_ad e4 _), grown_cell' hgrow hg4 (cell_ad j1 _), grown_cell' hgrow hg4 (cell_ad j4 _), rangeAt_grown (range_ad r2 _) hgrow ht4⟩
  refine hK.out _ _ (.inr S3) ?_
  clear hK K
  refine wpAnyT_one (i := 20) (by kernel_rfl) rfl (fun K hK => ?_)
  go_simp
  refine hK.out _ _ (.inr S3) ?_
  clear hK K
  refine wpAnyT_one (i := 21) (by kernel_rfl) rfl (fun K hK => ?_)
  go_simp
  refine hK.out _ _ (.inr S3) ?_
  clear hK K
  have c4' := S3.1
  have f4' := (grown_free' hgrow (p := ⟨f, 4, none⟩) hf4 (World.block_lt_of_cell? _ _ (cell_ad e4 _))).trans (free_ad e4 ef4 _)
  have HG := hid (And.intro hown3 (And.intro hgrow hor))
  clear hown3 hgrow hor S3 hS e4 ef4 j1 j4 r2
  refine wpAnyT_one (i := 22) (by kernel_rfl) rfl (fun K hK => ?_)
  go_simp
  refine hK.out _ _ (.inl rfl) ?_
  clear hK K
  refine wpAnyT_done (by kernel_rfl) ?_ _
  refine NoPanic.normal ?_
  go_wp2
  go_ret
  obtain ⟨hown3, hgrow, hor⟩ := HG.out
  refine ⟨rfl, step_post ?_ k2 HO2.out hown3 hgrow hor hf4 c4'⟩
  exact C4.out
end Go.Proofs.YtonnimbcekhbgaaGreatDoor
