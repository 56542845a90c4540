/- What the claim needs of: HC. -/
import Derived.Test.YtonnimbcekhbgaaGreatDoorX14

/- HC. -/
namespace Go.Proofs.YtonnimbcekhbgaaGreatDoor
open Go.RowKit Go.MapKept

section
variable {w0 w w1 w2 : World} {b k g cap : Nat} {src : ByteArray} {σ : Sst} {cv : List Value}

theorem srB_ls (b : Nat) (σ : Sst) (l : List (ByteArray × Nat)) : srB b { σ with ls := l } = srB b σ := by
  funext i
  rcases i with _ | _ | _ | _ | _ | _ | _ | _ | i <;> rfl
/-- A label is put into the table. -/
theorem Sr.putLabel {x : ByteArray} (h : Sr w0 w b src k σ) (n : Nat) (kp : Kp [σ.lb] w w1) (hm : w1.heap[σ.lb]? = some (strO (σ.ls ++ [(x, n)]))) : Sr w0 w1 b src k { σ with ls := σ.ls ++ [(x, n)] } := by
  have hb : b ∉ [σ.lb] := fun e => by
    have : b = σ.lb := by simpa using e
    have := h.r.bk.ne 0 2 b rfl (by rw [this]; rfl)
    omega
  have hh : ∀ i p, i ≠ 2 → srB b σ i = some p → w1.heap[p]? = w.heap[p]? := fun i p hi hp => kp.block p (h.r.bk.hi i p hp) (fun e => hi (h.r.bk.ne i 2 p hp (by simp at e; rw [e]; rfl)))
  have c := h.c.keep (w' := w1) (fun j _ => kp.cell (p := ⟨b, j, none⟩) h.cur.lt hb)
  refine ⟨h.cur.keep kp hb, ⟨c.c2, c.c3, c.c4, c.c5, c.c6, c.c7, c.c8, c.c9, c.c10, c.c11⟩, ⟨?_, own_block h.r.o4 (fun p hp => hh 4 p (by omega) hp), own_block h.r.o5 (fun p hp => hh 5 p (by omega) hp), own_block h.r.o8 (fun p hp => hh 6 p (by omega) hp), own_block h.r.o11 (fun p hp => hh 7 p (by omega) hp), (hh 1 _ (by omega) rfl).trans h.r.m7, hm, (hh 3 _ (by omega) rfl).trans h.r.m10, h.r.len, by rw [srB_ls]; exact h.r.bk.grow kp.size, fun f hf => ?_⟩⟩
  · refine ⟨kp.os.trans h.r.kp.os, kp.tape.trans h.r.kp.tape, kp.output.trans h.r.kp.output, Nat.le_trans h.r.kp.size kp.size, fun j hj _ => (kp.block j (Nat.lt_of_lt_of_le hj h.r.kp.size) (fun e => ?_)).trans (h.r.kp.block j hj (by simp))⟩
    have := h.r.bk.lo 2 σ.lb rfl
    simp at e
    omega
  · obtain ⟨f1, f2, f3⟩ := h.r.fx f hf
    refine ⟨(kp.block f.1 (lt_blk f1) (fun e => f3 2 (by simp at e; rw [e]; rfl))).trans f1, f2, by rw [srB_ls]; exact f3⟩

theorem srB_pushBlock (b : Nat) (σ : Sst) (A : Addr) (n c : Nat) (l : List Nat) : srB b { σ with vb := .slice (some A) n c, bs := l } = fun j => if j = 6 then some A.block else srB b σ j := by
  funext i
  rcases i with _ | _ | _ | _ | _ | _ | _ | _ | i <;> simp [srB, Value.ownBlock]
theorem Sr.pushBlock {x : Nat} (h : Sr w0 w b src k σ) (k1 : Kp [] w w1) (ho : w2.ownsRow w0.heap.size 3 1 (.slice (some ⟨g, 0, none⟩) (σ.bs.length + 1) cap) (σ.bs.length + 1) ((σ.bs.map fun n : Nat => Value.int .i64 (n : Int)) ++ [.int .i64 (x : Int)]))
    (hg : w1.grownBy w2 σ.vb.ownBlock) (hor : σ.vb.ownBlock = some g ∨ w1.heap.size ≤ g) :
    Sr w0 (w2.setCell ⟨b, 8, none⟩ (.slice (some ⟨g, 0, none⟩) (σ.bs.length + 1) cap)) b src k { σ with vb := .slice (some ⟨g, 0, none⟩) (σ.bs.length + 1) cap, bs := σ.bs ++ [x] } := by
  obtain ⟨v, hv⟩ : ∃ v, v = Value.slice (some ⟨g, 0, none⟩) (σ.bs.length + 1) cap := ⟨_, rfl⟩
  have h1 := h.keep k1
  have glt : g < w2.heap.size := (own_lt ho (g := g) rfl).2
  have bne : ∀ i p, i ≠ 6 → srB b σ i = some p → w2.heap[p]? = w1.heap[p]? := fun i p hi hp => hg.block p (h1.r.bk.hi i p hp) (fun e => hi (h1.r.bk.ne i 6 p hp (by first | exact e | exact e.symm)))
  have gne : ∀ i p, i ≠ 6 → srB b σ i = some p → p ≠ g := fun i p hi hp e => by
    subst e
    rcases hor with q | q
    · exact hi (h1.r.bk.ne i 6 p hp q)
    · have := h1.r.bk.hi i p hp; omega
  have kb : Kp [b] w2 (w2.setCell ⟨b, 8, none⟩ v) := Kp.setCell _ _ (by simp)
  have bb : ∀ p, p < w2.heap.size → p ≠ b → (w2.setCell ⟨b, 8, none⟩ v).heap[p]? = w2.heap[p]? := fun p hp hn => kb.block p hp (by simpa using hn)
  have hh : ∀ i p, 0 < i → i ≠ 6 → srB b σ i = some p → (w2.setCell ⟨b, 8, none⟩ v).heap[p]? = w1.heap[p]? := fun i p h0 hi hp =>
    (bb p (Nat.lt_of_lt_of_le (h1.r.bk.hi i p hp) hg.size) (fun e => by have := h1.r.bk.ne i 0 p hp (by rw [e]; rfl); omega)).trans (bne i p hi hp)
  have hb2 : w2.heap[b]? = w1.heap[b]? := bne 0 b (by omega) rfl
  have hc2 : ∀ j, w2.cell? ⟨b, j, none⟩ = w1.cell? ⟨b, j, none⟩ := fun j => World.cell?_of_block hb2
  have hf2 : ∀ j, w2.frozen? ⟨b, j, none⟩ = w1.frozen? ⟨b, j, none⟩ := fun j => World.frozen?_of_block hb2
  have hc : ∀ j, j ≠ 8 → (w2.setCell ⟨b, 8, none⟩ v).cell? ⟨b, j, none⟩ = w1.cell? ⟨b, j, none⟩ := fun j hj => (cell_other _ (fun e => by injection e with _ e2 _; exact hj e2.symm)).trans (hc2 j)
  have gb : g ≠ b := fun e => gne 0 b (by omega) rfl e.symm
  rw [← hv] at ho ⊢
  have eB : srB b { σ with vb := v, bs := σ.bs ++ [x] } = fun j => if j = 6 then some g else srB b σ j := by rw [hv]; exact srB_pushBlock b σ _ _ _ _
  refine ⟨⟨Nat.lt_of_lt_of_le (Nat.lt_of_lt_of_le h1.cur.lt hg.size) kb.size, h1.cur.le, h1.cur.small, (hc _ (by omega)).trans h1.cur.c0, (hc _ (by omega)).trans h1.cur.c1, fun i => ?_⟩, ⟨(hc _ (by omega)).trans h1.c.c2, (hc _ (by omega)).trans h1.c.c3, (hc _ (by omega)).trans h1.c.c4, (hc _ (by omega)).trans h1.c.c5, (hc _ (by omega)).trans h1.c.c6, (hc _ (by omega)).trans h1.c.c7, cell_same _ ((hc2 8).trans h1.c.c8), (hc _ (by omega)).trans h1.c.c9, (hc _ (by omega)).trans h1.c.c10, (hc _ (by omega)).trans h1.c.c11⟩, ⟨?_, own_block h1.r.o4 (fun p hp => hh 4 p (by omega) (by omega) hp), own_block h1.r.o5 (fun p hp => hh 5 p (by omega) (by omega) hp), ?_, own_block h1.r.o11 (fun p hp => hh 7 p (by omega) (by omega) hp), (hh 1 _ (by omega) (by omega) rfl).trans h1.r.m7, (hh 2 _ (by omega) (by omega) rfl).trans h1.r.m9, (hh 3 _ (by omega) (by omega) rfl).trans h1.r.m10, h1.r.len, ?_, ?_⟩⟩
  · have e1 : (w2.setCell ⟨b, 8, none⟩ v).frozen? ⟨b, i, none⟩ = w2.frozen? ⟨b, i, none⟩ := by simp
    rw [e1, hf2]
    exact h1.cur.free i
  · refine ⟨kb.os.trans (hg.os.trans h1.r.kp.os), kb.tape.trans (hg.tape.trans h1.r.kp.tape), kb.output.trans (hg.output.trans h1.r.kp.output), Nat.le_trans h1.r.kp.size (Nat.le_trans hg.size kb.size), fun j hj _ => ?_⟩
    have hj1 : j < w1.heap.size := Nat.lt_of_lt_of_le hj h1.r.kp.size
    refine (bb j (Nat.lt_of_lt_of_le hj1 hg.size) (fun e => ?_)).trans ((hg.block j hj1 (fun e => ?_)).trans (h1.r.kp.block j hj (by simp)))
    · have := h1.r.bk.lo 0 b rfl; omega
    · have := h1.r.bk.lo 6 j (by first | exact e | exact e.symm); omega
  · have ho2 := own_block (w' := w2.setCell ⟨b, 8, none⟩ v) ho (fun p hp => by
      rw [hv] at hp
      have : g = p := by simpa [Value.ownBlock] using hp
      subst this
      exact bb g glt gb)
    rw [List.length_append]
    rw [List.map_append]
    simpa using ho2
  · rw [eB]
    refine h1.r.bk.upd 6 g (Nat.le_trans hg.size kb.size) h1.r.kp.size ?_
    rcases hor with q | q
    · exact .inl q
    · exact .inr ⟨q, Nat.lt_of_lt_of_le glt kb.size⟩
  · intro f hm
    obtain ⟨f1, f2, f3⟩ := h1.r.fx f hm
    have flt := lt_blk f1
    have fg : f.1 ≠ g := fun e => by
      rcases hor with q | q
      · exact f3 6 (by rw [e]; exact q)
      · omega
    refine ⟨(bb f.1 (Nat.lt_of_lt_of_le flt hg.size) (fun e => f3 0 (by rw [e]; rfl))).trans ((hg.block f.1 flt (fun e => f3 6 (by first | exact e | exact e.symm))).trans f1), f2, fun i => ?_⟩
    rw [eB]
    show (if i = 6 then some g else srB b σ i) ≠ _
    split
    · intro e
      injection e with e
      exact fg e.symm
    · exact f3 i

theorem srB_pushGoal (b : Nat) (σ : Sst) (A : Addr) (n c : Nat) (l : List (Nat × Nat)) : srB b { σ with vg := .slice (some A) n c, gs := l } = fun j => if j = 7 then some A.block else srB b σ j := by
  funext i
  rcases i with _ | _ | _ | _ | _ | _ | _ | _ | i <;> simp [srB, Value.ownBlock]
theorem Sr.pushGoal {x : Nat × Nat} (h : Sr w0 w b src k σ) (k1 : Kp [] w w1) (ho : w2.ownsRow w0.heap.size 106 2 (.slice (some ⟨g, 0, none⟩) (σ.gs.length + 1) cap) (σ.gs.length + 1) ((σ.gs.flatMap fun p : Nat × Nat => [Value.int .i64 (p.1 : Int), .int .i64 (p.2 : Int)]) ++ [.int .i64 (x.1 : Int), .int .i64 (x.2 : Int)]))
    (hg : w1.grownBy w2 σ.vg.ownBlock) (hor : σ.vg.ownBlock = some g ∨ w1.heap.size ≤ g) :
    Sr w0 (w2.setCell ⟨b, 11, none⟩ (.slice (some ⟨g, 0, none⟩) (σ.gs.length + 1) cap)) b src k { σ with vg := .slice (some ⟨g, 0, none⟩) (σ.gs.length + 1) cap, gs := σ.gs ++ [x] } := by
  obtain ⟨v, hv⟩ : ∃ v, v = Value.slice (some ⟨g, 0, none⟩) (σ.gs.length + 1) cap := ⟨_, rfl⟩
  have h1 := h.keep k1
  have glt : g < w2.heap.size := (own_lt ho (g := g) rfl).2
  have bne : ∀ i p, i ≠ 7 → srB b σ i = some p → w2.heap[p]? = w1.heap[p]? := fun i p hi hp => hg.block p (h1.r.bk.hi i p hp) (fun e => hi (h1.r.bk.ne i 7 p hp (by first | exact e | exact e.symm)))
  have gne : ∀ i p, i ≠ 7 → srB b σ i = some p → p ≠ g := fun i p hi hp e => by
    subst e
    rcases hor with q | q
    · exact hi (h1.r.bk.ne i 7 p hp q)
    · have := h1.r.bk.hi i p hp; omega
  have kb : Kp [b] w2 (w2.setCell ⟨b, 11, none⟩ v) := Kp.setCell _ _ (by simp)
  have bb : ∀ p, p < w2.heap.size → p ≠ b → (w2.setCell ⟨b, 11, none⟩ v).heap[p]? = w2.heap[p]? := fun p hp hn => kb.block p hp (by simpa using hn)
  have hh : ∀ i p, 0 < i → i ≠ 7 → srB b σ i = some p → (w2.setCell ⟨b, 11, none⟩ v).heap[p]? = w1.heap[p]? := fun i p h0 hi hp =>
    (bb p (Nat.lt_of_lt_of_le (h1.r.bk.hi i p hp) hg.size) (fun e => by have := h1.r.bk.ne i 0 p hp (by rw [e]; rfl); omega)).trans (bne i p hi hp)
  have hb2 : w2.heap[b]? = w1.heap[b]? := bne 0 b (by omega) rfl
  have hc2 : ∀ j, w2.cell? ⟨b, j, none⟩ = w1.cell? ⟨b, j, none⟩ := fun j => World.cell?_of_block hb2
  have hf2 : ∀ j, w2.frozen? ⟨b, j, none⟩ = w1.frozen? ⟨b, j, none⟩ := fun j => World.frozen?_of_block hb2
  have hc : ∀ j, j ≠ 11 → (w2.setCell ⟨b, 11, none⟩ v).cell? ⟨b, j, none⟩ = w1.cell? ⟨b, j, none⟩ := fun j hj => (cell_other _ (fun e => by injection e with _ e2 _; exact hj e2.symm)).trans (hc2 j)
  have gb : g ≠ b := fun e => gne 0 b (by omega) rfl e.symm
  rw [← hv] at ho ⊢
  have eB : srB b { σ with vg := v, gs := σ.gs ++ [x] } = fun j => if j = 7 then some g else srB b σ j := by rw [hv]; exact srB_pushGoal b σ _ _ _ _
  refine ⟨⟨Nat.lt_of_lt_of_le (Nat.lt_of_lt_of_le h1.cur.lt hg.size) kb.size, h1.cur.le, h1.cur.small, (hc _ (by omega)).trans h1.cur.c0, (hc _ (by omega)).trans h1.cur.c1, fun i => ?_⟩, ⟨(hc _ (by omega)).trans h1.c.c2, (hc _ (by omega)).trans h1.c.c3, (hc _ (by omega)).trans h1.c.c4, (hc _ (by omega)).trans h1.c.c5, (hc _ (by omega)).trans h1.c.c6, (hc _ (by omega)).trans h1.c.c7, (hc _ (by omega)).trans h1.c.c8, (hc _ (by omega)).trans h1.c.c9, (hc _ (by omega)).trans h1.c.c10, cell_same _ ((hc2 11).trans h1.c.c11)⟩, ⟨?_, own_block h1.r.o4 (fun p hp => hh 4 p (by omega) (by omega) hp), own_block h1.r.o5 (fun p hp => hh 5 p (by omega) (by omega) hp), own_block h1.r.o8 (fun p hp => hh 6 p (by omega) (by omega) hp), ?_, (hh 1 _ (by omega) (by omega) rfl).trans h1.r.m7, (hh 2 _ (by omega) (by omega) rfl).trans h1.r.m9, (hh 3 _ (by omega) (by omega) rfl).trans h1.r.m10, h1.r.len, ?_, ?_⟩⟩
  · have e1 : (w2.setCell ⟨b, 11, none⟩ v).frozen? ⟨b, i, none⟩ = w2.frozen? ⟨b, i, none⟩ := by simp
    rw [e1, hf2]
    exact h1.cur.free i
  · refine ⟨kb.os.trans (hg.os.trans h1.r.kp.os), kb.tape.trans (hg.tape.trans h1.r.kp.tape), kb.output.trans (hg.output.trans h1.r.kp.output), Nat.le_trans h1.r.kp.size (Nat.le_trans hg.size kb.size), fun j hj _ => ?_⟩
    have hj1 : j < w1.heap.size := Nat.lt_of_lt_of_le hj h1.r.kp.size
    refine (bb j (Nat.lt_of_lt_of_le hj1 hg.size) (fun e => ?_)).trans ((hg.block j hj1 (fun e => ?_)).trans (h1.r.kp.block j hj (by simp)))
    · have := h1.r.bk.lo 0 b rfl; omega
    · have := h1.r.bk.lo 7 j (by first | exact e | exact e.symm); omega
  · have ho2 := own_block (w' := w2.setCell ⟨b, 11, none⟩ v) ho (fun p hp => by
      rw [hv] at hp
      have : g = p := by simpa [Value.ownBlock] using hp
      subst this
      exact bb g glt gb)
    rw [List.length_append]
    rw [List.flatMap_append]
    simpa using ho2
  · rw [eB]
    refine h1.r.bk.upd 7 g (Nat.le_trans hg.size kb.size) h1.r.kp.size ?_
    rcases hor with q | q
    · exact .inl q
    · exact .inr ⟨q, Nat.lt_of_lt_of_le glt kb.size⟩
  · intro f hm
    obtain ⟨f1, f2, f3⟩ := h1.r.fx f hm
    have flt := lt_blk f1
    have fg : f.1 ≠ g := fun e => by
      rcases hor with q | q
      · exact f3 7 (by rw [e]; exact q)
      · omega
    refine ⟨(bb f.1 (Nat.lt_of_lt_of_le flt hg.size) (fun e => f3 0 (by rw [e]; rfl))).trans ((hg.block f.1 flt (fun e => f3 7 (by first | exact e | exact e.symm))).trans f1), f2, fun i => ?_⟩
    rw [eB]
    show (if i = 7 then some g else srB b σ i) ≠ _
    split
    · intro e
      injection e with e
      exact fg e.symm
    · exact f3 i

/-- Some of a row's front. -/
theorem own_front {base size n m : Nat} {e : TypeId} {A : Option Addr} {c : Nat} {xs : List Value} (h : w.ownsRow base e size (.slice A n c) n xs) (hm : m ≤ n) : w.ownsRow base e size (.slice A m c) m (xs.take (m * size)) := by
  have hms : m * size ≤ n * size := Nat.mul_le_mul_right _ hm
  refine ⟨by rw [List.length_take, h.1]; omega, ?_⟩
  rcases h.2 with ⟨q1, q2⟩ | ⟨g, cap, cur, q1, q2, q3, q4, q5, q6, q7⟩
  · injection q1 with e1 e2 e3
    exact .inl ⟨by rw [e1, e3, show m = 0 by omega], by omega⟩
  · injection q1 with e1 e2 e3
    refine .inr ⟨g, cap, cur, by rw [e1, e3], q2, q3, by omega, q5, q6, ?_⟩
    rw [← q7, List.take_take, Nat.min_eq_left hms]

theorem srB_cut (b : Nat) (σ : Sst) (A : Option Addr) (n c m : Nat) (l : List Nat) (h : σ.vb = .slice A n c) : srB b { σ with vb := .slice A m c, bs := l } = srB b σ := by
  funext i
  rcases i with _ | _ | _ | _ | _ | _ | _ | _ | i <;> simp [srB, h]
  cases A <;> rfl

/-- The last block is shut: it is none of the open ones any more. -/
theorem Sr.popBlock {A : Option Addr} {c m : Nat} {l : List Nat} {x : Nat} (h : Sr w0 w b src k σ) (hv : σ.vb = .slice A (m + 1) c) (hl : σ.bs = l ++ [x]) (hm : l.length = m) : Sr w0 (w.setCell ⟨b, 8, none⟩ (.slice A m c)) b src k { σ with vb := .slice A m c, bs := l } := by
  have kb : Kp [b] w (w.setCell ⟨b, 8, none⟩ (.slice A m c)) := Kp.setCell _ _ (by simp)
  have hh : ∀ i p, 0 < i → srB b σ i = some p → (w.setCell ⟨b, 8, none⟩ (.slice A m c)).heap[p]? = w.heap[p]? := fun i p h0 hp => kb.block p (h.r.bk.hi i p hp) (fun e => by
    have : p = b := by simpa using e
    have := h.r.bk.ne i 0 p hp (by rw [this]; rfl); omega)
  have hc : ∀ j, j ≠ 8 → (w.setCell ⟨b, 8, none⟩ (.slice A m c)).cell? ⟨b, j, none⟩ = w.cell? ⟨b, j, none⟩ := fun j hj => cell_other _ (fun e => by injection e with _ e2 _; exact hj e2.symm)
  have o8 := h.r.o8
  rw [hv, hl, List.length_append, hm] at o8
  have o8' := own_front (m := m) o8 (by omega)
  rw [List.map_append, Nat.mul_one, List.take_left' (by simpa using hm)] at o8'
  refine ⟨⟨Nat.lt_of_lt_of_le h.cur.lt kb.size, h.cur.le, h.cur.small, (hc _ (by omega)).trans h.cur.c0, (hc _ (by omega)).trans h.cur.c1, fun i => ?_⟩, ⟨(hc _ (by omega)).trans h.c.c2, (hc _ (by omega)).trans h.c.c3, (hc _ (by omega)).trans h.c.c4, (hc _ (by omega)).trans h.c.c5, (hc _ (by omega)).trans h.c.c6, (hc _ (by omega)).trans h.c.c7, cell_same _ h.c.c8, (hc _ (by omega)).trans h.c.c9, (hc _ (by omega)).trans h.c.c10, (hc _ (by omega)).trans h.c.c11⟩, ⟨?_, own_block h.r.o4 (fun p hp => hh 4 p (by omega) hp), own_block h.r.o5 (fun p hp => hh 5 p (by omega) hp), ?_, own_block h.r.o11 (fun p hp => hh 7 p (by omega) hp), (hh 1 _ (by omega) rfl).trans h.r.m7, (hh 2 _ (by omega) rfl).trans h.r.m9, (hh 3 _ (by omega) rfl).trans h.r.m10, h.r.len, by rw [srB_cut b σ A (m + 1) c m l hv]; exact h.r.bk.grow kb.size, fun f hf => ?_⟩⟩
  · have e1 : (w.setCell ⟨b, 8, none⟩ (.slice A m c)).frozen? ⟨b, i, none⟩ = w.frozen? ⟨b, i, none⟩ := by simp
    rw [e1]
    exact h.cur.free i
  · refine ⟨kb.os.trans h.r.kp.os, kb.tape.trans h.r.kp.tape, kb.output.trans h.r.kp.output, Nat.le_trans h.r.kp.size kb.size, fun j hj _ => (kb.block j (Nat.lt_of_lt_of_le hj h.r.kp.size) (fun e => ?_)).trans (h.r.kp.block j hj (by simp))⟩
    have := h.r.bk.lo 0 b rfl
    simp at e
    omega
  · rw [hm]
    exact own_block o8' (fun p hp => hh 6 p (by omega) (by
      show σ.vb.ownBlock = some p
      rw [hv]
      cases A with
      | none => cases hp
      | some a => exact hp))
  · obtain ⟨f1, f2, f3⟩ := h.r.fx f hf
    exact ⟨(kb.block f.1 (lt_blk f1) (fun e => f3 0 (by simp at e; rw [e]; rfl))).trans f1, f2, by rw [srB_cut b σ A (m + 1) c m l hv]; exact f3⟩

theorem flatten_set {n : Nat} (v : Value) : ∀ (cs : List (List Value)) (i j : Nat) (c : List Value), (∀ c ∈ cs, c.length = n) → cs[i]? = some c → j < n → cs.flatten.set (i * n + j) v = (cs.set i (c.set j v)).flatten
  | [], i, _, _, _, h, _ => by simp at h
  | d :: cs, 0, j, c, hl, h, hj => by
    injection h with h
    subst h
    have := hl d (by simp)
    rw [List.flatten_cons, Nat.zero_mul, Nat.zero_add, List.set_append_left _ _ (by omega), List.set_cons_zero, List.flatten_cons]
  | d :: cs, i + 1, j, c, hl, h, hj => by
    have := hl d (by simp)
    rw [List.flatten_cons, List.set_append_right _ _ (by rw [this, Nat.add_mul]; omega), List.set_cons_succ, List.flatten_cons, ← flatten_set v cs i j c (fun c hc => hl c (by simp [hc])) h hj, this, show (i + 1) * n + j - n = i * n + j by rw [Nat.add_mul]; omega]

/-- One cell of a command that was read is written. -/
theorem Sr.setCmd {i j : Nat} {c : List Value} {v : Value} (h : Sr w0 w b src k σ) (hv : σ.vc = .slice (some ⟨g, 0, none⟩) σ.cs.length cap) (hi : σ.cs[i]? = some c) (hj : j < 23) (h1 : v.oneCell' = true) : Sr w0 (w.setCell ⟨g, i * 23 + j, none⟩ v) b src k { σ with cs := σ.cs.set i (c.set j v) } := by
  have kb : Kp [g] w (w.setCell ⟨g, i * 23 + j, none⟩ v) := Kp.setCell _ _ (by simp)
  have hgk : srB b σ 4 = some g := by show σ.vc.ownBlock = some g; rw [hv]; rfl
  have hgb : g ≠ b := fun e => by have := h.r.bk.ne 4 0 g hgk (by rw [e]; rfl); omega
  have hh : ∀ i' p, i' ≠ 4 → srB b σ i' = some p → (w.setCell ⟨g, i * 23 + j, none⟩ v).heap[p]? = w.heap[p]? := fun i' p h0 hp => kb.block p (h.r.bk.hi i' p hp) (fun e => h0 (h.r.bk.ne i' 4 p hp (by
    have : p = g := by simpa using e
    rw [this]; exact hgk)))
  have hc : ∀ q, (w.setCell ⟨g, i * 23 + j, none⟩ v).cell? ⟨b, q, none⟩ = w.cell? ⟨b, q, none⟩ := fun q => kb.cell (p := ⟨b, q, none⟩) h.cur.lt (by simpa using hgb.symm)
  have eB : srB b { σ with cs := σ.cs.set i (c.set j v) } = srB b σ := by
    funext q
    rcases q with _ | _ | _ | _ | _ | _ | _ | _ | q <;> rfl
  have o4 := h.r.o4
  rw [hv] at o4
  have o4' := (o4.stored (i * 23 + j) v).1
  rw [flatten_set v σ.cs i j c (fun c hc => (h.r.len c hc).1) hi hj] at o4'
  have cs := h.c.keep (w' := w.setCell ⟨g, i * 23 + j, none⟩ v) (fun q _ => hc q)
  refine ⟨h.cur.keep kb (by simpa using hgb.symm), ⟨cs.c2, cs.c3, cs.c4, cs.c5, cs.c6, cs.c7, cs.c8, cs.c9, cs.c10, cs.c11⟩, ⟨?_, ?_, own_block h.r.o5 (fun p hp => hh 5 p (by omega) hp), own_block h.r.o8 (fun p hp => hh 6 p (by omega) hp), own_block h.r.o11 (fun p hp => hh 7 p (by omega) hp), (hh 1 _ (by omega) rfl).trans h.r.m7, (hh 2 _ (by omega) rfl).trans h.r.m9, (hh 3 _ (by omega) rfl).trans h.r.m10, fun d hd => ?_, by rw [eB]; exact h.r.bk.grow kb.size, fun f hf => ?_⟩⟩
  · refine ⟨kb.os.trans h.r.kp.os, kb.tape.trans h.r.kp.tape, kb.output.trans h.r.kp.output, Nat.le_trans h.r.kp.size kb.size, fun q hq _ => (kb.block q (Nat.lt_of_lt_of_le hq h.r.kp.size) (fun e => ?_)).trans (h.r.kp.block q hq (by simp))⟩
    have := h.r.bk.lo 4 g hgk
    simp at e
    omega
  · show (w.setCell ⟨g, i * 23 + j, none⟩ v).ownsRow w0.heap.size 100 23 σ.vc (σ.cs.set i (c.set j v)).length _
    rw [List.length_set, hv]
    exact o4'
  · rcases List.mem_or_eq_of_mem_set hd with q | q
    · exact h.r.len d q
    · obtain ⟨l1, l2⟩ := h.r.len c (List.mem_of_getElem? hi)
      rw [q]
      refine ⟨by rw [List.length_set]; exact l1, fun u hu => ?_⟩
      rcases List.mem_or_eq_of_mem_set hu with q | q
      · exact l2 u q
      · rw [q]; exact h1
  · obtain ⟨f1, f2, f3⟩ := h.r.fx f hf
    exact ⟨(kb.block f.1 (lt_blk f1) (fun e => f3 4 (by
      have : f.1 = g := by simpa using e
      rw [this]; exact hgk))).trans f1, f2, by rw [eB]; exact f3⟩
end
end Go.Proofs.YtonnimbcekhbgaaGreatDoor
