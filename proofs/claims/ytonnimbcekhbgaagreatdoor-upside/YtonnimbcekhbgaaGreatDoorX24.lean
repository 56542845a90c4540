/- What the claim needs of: OToQ UToV. -/
import Derived.Test.YtonnimbcekhbgaaGreatDoorX23
import Derived.Test.YtonnimbcekhbgaaGreatDoorX06

/- OToQ. -/
namespace Go.Proofs.YtonnimbcekhbgaaGreatDoor
open Go.RowKit

set_option maxRecDepth 100000 in
set_option maxHeartbeats 2000000 in
/-- No byte of the set stands there, or none at all. -/
theorem step_byte_end {w : World} {f p t g n c a pl : Nat} {text : ByteArray}
    (c0 : w.cell? ⟨f, 0, none⟩ = some (.pointer (some ⟨p, 0, none⟩))) (c1 : w.cell? ⟨f, 1, none⟩ = some (.string text)) (c2 : w.cell? ⟨f, 2, none⟩ = some (.int .i64 pl))
    (p0 : w.cell? ⟨p, 0, none⟩ = some (.slice (some ⟨g, 0, none⟩) n c)) (t0 : w.cell? ⟨t, 0, none⟩ = some (.int .i64 a)) (ha : a < n)
    (i0 : w.cell? ⟨g, a * 9, none⟩ = some (.int .i64 0)) (hlt : decide (pl < text.size) = false) :
    Calls Tryz.prog 166 #[.pointer (some ⟨f, 0, none⟩), .pointer (some ⟨t, 0, none⟩)] w fun e w' => e = .returned (.bool false) ∧ Kp [] w w' := by
  go_enter Tryz.func166, Tryz.ntmps166
  go_wp2
  go_quiet (fail)
  go_wp2
  go_quiet (fail)
  go_wp2
  go_ret
  exact ⟨rfl, (Kp.drewN _ _ _).trans (Kp.drewN _ _ _)⟩

/-- The worlds in which all that was there is as it was. -/
structure Ext (W : World) where
  val : World
  ok : Kp [] W val

/-- A region that draws its order, whose operations read and whose callees make memory at most: one walk serves every order. -/
theorem wp_region_ext {P : Program} {id : Nat} {Q : Exit → Act → World → Prop} {a : Act} {w : World} {l : List Oper} (hm : P.follows .mixedOrders = true) (hB : Region.lexB .any l.toArray = true)
    (h : wpQuiet P l.toArray (fun w' => ∃ x : Ext w, w' = x.val) (fun a' => ∀ w', (∃ x : Ext w, w' = x.val) → Q .normal a' w') l a) : (Code.region id l.toArray true).wp P Q a w :=
  wp_region_quiet (C := fun w' => ∃ x : Ext w, w' = x.val) hm hB ⟨⟨w.drew, Kp.drew _ _⟩, rfl⟩ (by simpa using h)

theorem Ext.cell {W : World} {a : Addr} {v : Value} (h : W.cell? a = some v) : ∀ x : Ext W, x.val.cell? a = some v := fun x => (x.ok.cell (World.block_lt_of_cell? _ _ h) (by simp)).trans h

theorem has_ext (m : Nat → Bool) (y : Nat) (hy : y < 256) {b : Bool} (hb : m y = b) {W : World} (x : Ext W) :
    Calls Tryz.prog 170 #[setV m, .int .u8 y] x.val fun e w'' => e = .returned (.bool b) ∧ ∃ z : Ext W, w'' = z.val := by
  subst hb
  exact (has_any m y hy x.val).mono fun e w'' ⟨he, k⟩ => ⟨he, ⟨w'', x.ok.trans k⟩, rfl⟩

set_option maxRecDepth 100000 in
set_option maxHeartbeats 2000000 in
theorem step_byte_miss {w : World} {f p t g n c a pl : Nat} {text : ByteArray} {m : Nat → Bool}
    (c0 : w.cell? ⟨f, 0, none⟩ = some (.pointer (some ⟨p, 0, none⟩))) (c1 : w.cell? ⟨f, 1, none⟩ = some (.string text)) (c2 : w.cell? ⟨f, 2, none⟩ = some (.int .i64 pl))
    (p0 : w.cell? ⟨p, 0, none⟩ = some (.slice (some ⟨g, 0, none⟩) n c)) (t0 : w.cell? ⟨t, 0, none⟩ = some (.int .i64 a)) (ha : a < n)
    (i0 : w.cell? ⟨g, a * 9, none⟩ = some (.int .i64 0)) (i5 : w.cell? ⟨g, a * 9 + 5, none⟩ = some (.int .u64 (wd m 0))) (i6 : w.cell? ⟨g, a * 9 + 5 + 1, none⟩ = some (.int .u64 (wd m 1)))
    (i7 : w.cell? ⟨g, a * 9 + 5 + 2, none⟩ = some (.int .u64 (wd m 2))) (i8 : w.cell? ⟨g, a * 9 + 5 + 3, none⟩ = some (.int .u64 (wd m 3)))
    (hlt : pl < text.size) (hm : m (text[pl]).toNat = false) :
    Calls Tryz.prog 166 #[.pointer (some ⟨f, 0, none⟩), .pointer (some ⟨t, 0, none⟩)] w fun e w' => e = .returned (.bool false) ∧ Kp [] w w' := by
  have HM := hid hm
  clear hm
  go_enter Tryz.func166, Tryz.ntmps166
  go_wp2
  go_quiet (fail)
  go_wp2
  generalize hw1 : w.drewN nq = w1
  have k1 : Kp [] w w1 := by rw [← hw1]; exact Kp.drewN _ _ _
  clear hw1
  have d1 := Ext.cell ((k1.cell (World.block_lt_of_cell? _ _ c1) (by simp)).trans c1)
  have d2 := Ext.cell ((k1.cell (World.block_lt_of_cell? _ _ c2) (by simp)).trans c2)
  have d5 := Ext.cell ((k1.cell (World.block_lt_of_cell? _ _ i5) (by simp)).trans i5)
  have d6 := Ext.cell ((k1.cell (World.block_lt_of_cell? _ _ i6) (by simp)).trans i6)
  have d7 := Ext.cell ((k1.cell (World.block_lt_of_cell? _ _ i7) (by simp)).trans i7)
  have d8 := Ext.cell ((k1.cell (World.block_lt_of_cell? _ _ i8) (by simp)).trans i8)
  clear c0 c1 c2 p0 t0 i0 i5 i6 i7 i8
  have hne : Nonempty (Ext w1) := ⟨⟨w1, Kp.refl _ _⟩⟩
  refine wp_region_ext (by kernel_rfl) (by kernel_rfl) ?_
  repeat (refine wpQuiet_step (fun K hK => ?_); go_simp; first | (refine hK _ ?_; clear hK K) | (apply Exists.intro; refine ⟨fun x => ?_, hK _ ?_⟩; exact has_ext m _ (UInt8.toNat_lt _) HM.out x; clear hK K))
  refine wpQuiet_nil ?_
  intro w' hw'
  obtain ⟨x, hx⟩ := hw'
  subst hx
  go_wp2
  go_ret
  exact ⟨rfl, k1.trans x.ok⟩
end Go.Proofs.YtonnimbcekhbgaaGreatDoor

/- The finder: an instruction that takes the byte that stands there. -/
namespace Go.Proofs.YtonnimbcekhbgaaGreatDoor
open Go.RowKit

/-- A thread's cells. -/
abbrev th (next depth x : Int) : List Value := .int .i64 next :: .int .i64 depth :: notesV x

theorem Tryz.infoTh : (Tryz.prog.info? 189).map (fun i => (i.zero, i.size, i.bytes)) = some (some (.agg #[.int .i64 0, .int .i64 0, .int .i64 0, .int .i64 0, .int .i64 0, .int .i64 0, .int .i64 0, .int .i64 0, .int .i64 0, .int .i64 0, .int .i64 0, .int .i64 0, .int .i64 0, .int .i64 0, .int .i64 0, .int .i64 0, .int .i64 0, .int .i64 0, .int .i64 0, .int .i64 0, .int .i64 0, .int .i64 0]), 22, 176) := by kernel_rfl

theorem grown_cell' {W w' : World} {row : Option Nat} (hg : W.grownBy w' row) {p : Addr} (hp : some p.block ≠ row) {v : Value} (h : W.cell? p = some v) : w'.cell? p = some v :=
  (World.cell?_of_block (w := W) (hg.block p.block (World.block_lt_of_cell? _ _ h) hp)).trans h
theorem grown_free' {W w' : World} {row : Option Nat} (hg : W.grownBy w' row) {p : Addr} (hp : some p.block ≠ row) (hl : p.block < W.heap.size) : w'.frozen? p = W.frozen? p :=
  World.frozen?_of_block (w := W) (hg.block p.block hl hp)
theorem rangeAt_keep {S : List Nat} {w w' : World} {b o : Nat} {cs : List Value} (h : w.rangeAt b o cs) (k : Kp S w w') (hb : b ∉ S) : w'.rangeAt b o cs :=
  fun j v hv => (k.cell (World.block_lt_of_cell? _ _ (h j v hv)) hb).trans (h j v hv)
theorem rangeAt_grown {W w' : World} {row : Option Nat} {b o : Nat} {cs : List Value} (h : W.rangeAt b o cs) (hg : W.grownBy w' row) (hp : some b ≠ row) : w'.rangeAt b o cs :=
  fun j v hv => grown_cell' hg hp (h j v hv)

theorem ownsRow_setCell_far {w : World} {base size n : Nat} {e : TypeId} {g c : Nat} {xs : List Value} (h : w.ownsRow base e size (.slice (some ⟨g, 0, none⟩) n c) n xs) {a : Addr} (ha : g ≠ a.block) {u : Value} : (w.setCell a u).ownsRow base e size (.slice (some ⟨g, 0, none⟩) n c) n xs := by
  refine ⟨h.1, ?_⟩
  rcases h.2 with q | ⟨g', cap, cur, q1, q2, q3, q4⟩
  · exact .inl q
  · refine .inr ⟨g', cap, cur, q1, q2, ?_, q4⟩
    have e : g = g' := by simp at q1; exact q1.1
    rw [Below.heap_setCell _ _ _ _ (e ▸ ha)]; exact q3

theorem cell_ad {w : World} {a : Addr} {v : Value} (h : w.cell? a = some v) (o : Obj) : (w.alloc o).drew.cell? a = some v :=
  ((Kp.alloc [] w o).cell (World.block_lt_of_cell? _ _ h) (by simp)).trans h
theorem free_ad {w : World} {a : Addr} {v : Value} (hc : w.cell? a = some v) (h : w.frozen? a = false) (o : Obj) : (w.alloc o).drew.frozen? a = false :=
  ((Kp.alloc [] w o).frozen (World.block_lt_of_cell? _ _ hc) (by simp)).trans h
theorem range_ad {w : World} {b k : Nat} {cs : List Value} (h : w.rangeAt b k cs) (o : Obj) : (w.alloc o).drew.rangeAt b k cs := fun j v hv => cell_ad (h j v hv) o

/-- All blocks that were there but f and one more are as they were; of f all cells but number 4. -/
structure Hit (f : Nat) (row : Option Nat) (w w' : World) : Prop where
  os : w'.os = w.os
  tape : w'.tape = w.tape
  output : w'.output = w.output
  size : w.heap.size ≤ w'.heap.size
  block : ∀ k, k < w.heap.size → k ≠ f → some k ≠ row → w'.heap[k]? = w.heap[k]?
  cell : ∀ i, i ≠ 4 → w'.cell? ⟨f, i, none⟩ = w.cell? ⟨f, i, none⟩
  free : ∀ i, w'.frozen? ⟨f, i, none⟩ = w.frozen? ⟨f, i, none⟩

theorem step_post {w w2 w3 : World} {f B nA g' c' : Nat} {v4 : Value} {xs ys : List Value} {o : Obj} (hc : w.cell? ⟨f, 4, none⟩ = some v4) (k2 : Kp [] w w2) (_ho : w2.ownsRow B 189 22 v4 nA xs)
    (hown : w3.ownsRow B 189 22 (.slice (some ⟨g', 0, none⟩) (nA + 1) c') (nA + 1) ys) (hg : ((w2.alloc o).drew).grownBy w3 v4.ownBlock) (hor : v4.ownBlock = some g' ∨ ((w2.alloc o).drew).heap.size ≤ g')
    (hf4 : some f ≠ v4.ownBlock) (hc3 : w3.cell? ⟨f, 4, none⟩ = some v4) :
    ∃ g c, (w3.setCell ⟨f, 4, none⟩ (.slice (some ⟨g', 0, none⟩) (nA + 1) c')).cell? ⟨f, 4, none⟩ = some (.slice (some ⟨g, 0, none⟩) (nA + 1) c) ∧
      (w3.setCell ⟨f, 4, none⟩ (.slice (some ⟨g', 0, none⟩) (nA + 1) c')).ownsRow B 189 22 (.slice (some ⟨g, 0, none⟩) (nA + 1) c) (nA + 1) ys ∧ (v4.ownBlock = some g ∨ w.heap.size ≤ g) ∧
      Hit f v4.ownBlock w (w3.setCell ⟨f, 4, none⟩ (.slice (some ⟨g', 0, none⟩) (nA + 1) c')) := by
  have hlt := World.block_lt_of_cell? _ _ hc
  have kW : Kp [] w ((w2.alloc o).drew) := k2.trans ((Kp.alloc _ _ _).trans (Kp.drew _ _))
  have hz := kW.size
  have hgf : g' ≠ f := fun e => by
    rcases hor with h | h
    · rw [h, e] at hf4; exact hf4 rfl
    · rw [e] at h; have := hlt; simp at this; omega
  refine ⟨g', c', cell_same _ hc3, ?_, hor.imp id (fun h => Nat.le_trans hz h), ?_⟩
  · exact ownsRow_setCell_far hown hgf
  · refine ⟨hg.os.trans kW.os, hg.tape.trans kW.tape, hg.output.trans kW.output, ?_, fun k hk hkf hkr => ?_, fun i hi => ?_, fun i => ?_⟩
    · have := hg.size; simp [World.setCell] at this ⊢; have := k2.size; omega
    · rw [Below.heap_setCell _ _ _ _ hkf]
      exact (hg.block k (Nat.lt_of_lt_of_le hk hz) hkr).trans (kW.block k hk (by simp))
    · rw [cell_other _ (fun h => hi (by injection h with _ h2 _; exact h2.symm))]
      exact (World.cell?_of_block (w := (w2.alloc o).drew) (hg.block f (Nat.lt_of_lt_of_le hlt hz) hf4)).trans (kW.cell hlt (by simp))
    · have h1 : (w3.setCell ⟨f, 4, none⟩ (.slice (some ⟨g', 0, none⟩) (nA + 1) c')).frozen? ⟨f, i, none⟩ = w3.frozen? ⟨f, i, none⟩ := by simp
      rw [h1]
      exact (grown_free' hg (p := ⟨f, i, none⟩) hf4 (Nat.lt_of_lt_of_le hlt hz)).trans (kW.frozen hlt (by simp))

end Go.Proofs.YtonnimbcekhbgaaGreatDoor

/- UToV. -/
namespace Go.Proofs.YtonnimbcekhbgaaGreatDoor
open Go.RowKit

theorem there_seven {w : World} {f : Nat} (h : w.there f 8 20) (v : Value) (n : Nat) : ((w.drewN n).setCell ⟨f, 7, none⟩ v).there f 8 20 := fun j hj => by
  have q := h j hj
  refine ⟨?_, ?_⟩
  · rw [cell_other _ (fun e => by injection e with _ e2 _; omega)]; exact q.1
  · have h1 : ((w.drewN n).setCell ⟨f, 7, none⟩ v).frozen? ⟨f, 8 + j, none⟩ = w.frozen? ⟨f, 8 + j, none⟩ := by simp
    rw [h1]; exact q.2
end Go.Proofs.YtonnimbcekhbgaaGreatDoor

/- Rows that lie in memory, and the finder's two lists that change places: plain facts. -/
namespace Go.Proofs.YtonnimbcekhbgaaGreatDoor
open Go.RowKit

theorem ownsRow_empty {w : World} {base size n : Nat} {e : TypeId} {g c : Nat} {xs : List Value} (h : w.ownsRow base e size (.slice (some ⟨g, 0, none⟩) n c) n xs) : w.ownsRow base e size (.slice (some ⟨g, 0, none⟩) 0 c) 0 [] := by
  refine ⟨by simp, ?_⟩
  rcases h.2 with ⟨q, _⟩ | ⟨g', cap, cur, q1, q2, q3, q4, q5, q6, _⟩
  · simp at q
  · simp at q1
    obtain ⟨rfl, rfl⟩ := q1
    exact .inr ⟨g, c, cur, rfl, q2, q3, Nat.zero_le _, q5, q6, by simp⟩

theorem own_ne_new {w : World} {base size n : Nat} {e : TypeId} {v : Value} {xs : List Value} (h : w.ownsRow base e size v n xs) : some w.heap.size ≠ v.ownBlock := by
  rcases h.2 with ⟨hv, _⟩ | ⟨g, cap, cur, hv, _, q3, _⟩
  · rw [hv]; simp [Value.ownBlock]
  · rw [hv]
    have := lt_of_block q3
    simp [Value.ownBlock]; omega

theorem Tryz.szThread : (Tryz.prog.info? 189).map (·.size) = some 22 := by kernel_rfl

/-- The lists have changed places. -/
structure Swapped (f : Nat) (v3 v4 : Value) (w w' : World) : Prop where
  c3 : w'.cell? ⟨f, 3, none⟩ = some v3
  c4 : w'.cell? ⟨f, 4, none⟩ = some v4
  cell : ∀ i, i ≠ 3 → i ≠ 4 → w'.cell? ⟨f, i, none⟩ = w.cell? ⟨f, i, none⟩
  free : ∀ i, w'.frozen? ⟨f, i, none⟩ = w.frozen? ⟨f, i, none⟩
  kept : Kp [f] w w'

theorem swapped_of {f : Nat} {v u a b : Value} {w : World} (e3 : w.cell? ⟨f, 3, none⟩ = some a) (e4 : w.cell? ⟨f, 4, none⟩ = some b) : Swapped f v u w (((w.setCell ⟨f, 3, none⟩ v).setCell ⟨f, 4, none⟩ u).drew) := by
  have n34 : (⟨f, 3, none⟩ : Addr) ≠ ⟨f, 4, none⟩ := fun e => by injection e with _ e2 _; omega
  refine ⟨?_, ?_, fun i h3 h4 => ?_, fun i => ?_, (Kp.setCell _ _ (by simp)).trans ((Kp.setCell _ _ (by simp)).trans (Kp.drew _ _))⟩
  · exact (cell_other (w := w.setCell ⟨f, 3, none⟩ v) _ (Ne.symm n34)).trans (cell_same _ e3)
  · exact cell_same (w := w.setCell ⟨f, 3, none⟩ v) _ ((cell_other _ n34).trans e4)
  · exact (cell_other (w := w.setCell ⟨f, 3, none⟩ v) _ (fun e => by injection e with _ e2 _; exact h4 e2.symm)).trans (cell_other _ (fun e => by injection e with _ e2 _; exact h3 e2.symm))
  · have h1 : (((w.setCell ⟨f, 3, none⟩ v).setCell ⟨f, 4, none⟩ u).drew).frozen? ⟨f, i, none⟩ = w.frozen? ⟨f, i, none⟩ := by simp
    exact h1

theorem owns_of_block {w w' : World} {base size n : Nat} {e : TypeId} {v : Value} {xs : List Value} (h : w.ownsRow base e size v n xs) (hb : ∀ k, v.ownBlock = some k → k < w.heap.size → w'.heap[k]? = w.heap[k]?) : w'.ownsRow base e size v n xs := by
  refine ⟨h.1, ?_⟩
  rcases h.2 with q | ⟨g, cap, cur, q1, q2, q3, q4⟩
  · exact .inl q
  · exact .inr ⟨g, cap, cur, q1, q2, (hb g (by rw [q1]; rfl) (lt_of_block q3)).trans q3, q4⟩

theorem slice_of {w : World} {base size n : Nat} {e : TypeId} {v : Value} {xs : List Value} (h : w.ownsRow base e size v n xs) : ∃ ao n c, v = .slice ao n c := by
  rcases h.2 with ⟨q, _⟩ | ⟨g, cap, cur, q1, _⟩
  · exact ⟨_, _, _, q⟩
  · exact ⟨_, _, _, q1⟩

theorem row_at {w : World} {base size n gh ch : Nat} {e : TypeId} {xs : List Value} (h : w.ownsRow base e size (.slice (some ⟨gh, 0, none⟩) n ch) n xs) : w.rangeAt gh 0 xs := fun j u hu => by
  have hj : j < n * size := by rw [← h.1]; exact (List.getElem?_eq_some_iff.1 hu).1
  rw [Nat.zero_add, h.cellAt j hj]; exact hu

theorem row_cap {w : World} {base size n gh ch : Nat} {e : TypeId} {xs : List Value} (h : w.ownsRow base e size (.slice (some ⟨gh, 0, none⟩) n ch) n xs) : n ≤ ch := by
  rcases h.2 with ⟨q, _⟩ | ⟨g, cap, cur, q1, _, _, q4, _⟩
  · cases q
  · simp at q1
    omega
end Go.Proofs.YtonnimbcekhbgaaGreatDoor
