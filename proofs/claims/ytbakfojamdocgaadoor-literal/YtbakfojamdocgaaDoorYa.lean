/- The finder's state between the places, and what goOn makes of it. -/
import Derived.Test.YtbakfojamdocgaaDoorZ
namespace Go.Proofs.YtbakfojamdocgaaDoor
open Go.RowKit

theorem owns_of_block {w w' : World} {base size n : Nat} {e : TypeId} {v : Value} {xs : List Value} (h : w.ownsRow base e size v n xs) (hb : ∀ k, v.ownBlock = some k → k < w.heap.size → w'.heap[k]? = w.heap[k]?) : w'.ownsRow base e size v n xs := by
  refine ⟨h.1, ?_⟩
  rcases h.2 with q | ⟨g, cap, cur, q1, q2, q3, q4⟩
  · exact .inl q
  · exact .inr ⟨g, cap, cur, q1, q2, (hb g (by rw [q1]; rfl) (lt_of_block q3)).trans q3, q4⟩

/-- The finder between two calls: block f, seen in block sb; its lists are v3, v4, v5. -/
structure Fs (w W : World) (f p sb pl sq n3 n4 : Nat) (text : ByteArray) (v3 v4 v5 : Value) (xs3 xs4 : List Value) (b7 : Bool) : Prop where
  kp : Kp [] w W
  flo : w.heap.size ≤ f
  slo : w.heap.size ≤ sb
  ne : sb ≠ f
  c0 : W.cell? ⟨f, 0, none⟩ = some (.pointer (some ⟨p, 0, none⟩))
  c1 : W.cell? ⟨f, 1, none⟩ = some (.string text)
  c2 : W.cell? ⟨f, 2, none⟩ = some (.int .i64 pl)
  c3 : W.cell? ⟨f, 3, none⟩ = some v3
  c4 : W.cell? ⟨f, 4, none⟩ = some v4
  c5 : W.cell? ⟨f, 5, none⟩ = some v5
  c6 : W.cell? ⟨f, 6, none⟩ = some (.slice (some ⟨sb, 0, none⟩) 2 2)
  c7 : W.cell? ⟨f, 7, none⟩ = some (.bool b7)
  has : ∀ j, j < 20 → (W.cell? ⟨f, 8 + j, none⟩).isSome = true
  free : ∀ i, W.frozen? ⟨f, i, none⟩ = false
  seen : ∀ i, i < 2 → ∃ s : Int, W.cell? ⟨sb, i, none⟩ = some (.int .i64 s) ∧ s ≤ sq ∧ W.frozen? ⟨sb, i, none⟩ = false
  o3 : W.ownsRow w.heap.size 57 22 v3 n3 xs3
  o4 : W.ownsRow w.heap.size 57 22 v4 n4 xs4
  o5 : W.ownsRow w.heap.size 57 22 v5 0 []
  x3 : ∀ k, v3.ownBlock = some k → k ≠ f ∧ k ≠ sb ∧ v4.ownBlock ≠ some k ∧ v5.ownBlock ≠ some k
  x4 : ∀ k, v4.ownBlock = some k → k ≠ f ∧ k ≠ sb ∧ v5.ownBlock ≠ some k
  x5 : ∀ k, v5.ownBlock = some k → k ≠ f ∧ k ≠ sb
  sl5 : v5 = .slice none 0 0 ∨ ∃ g c, v5 = .slice (some ⟨g, 0, none⟩) 0 c

section
variable {w W W' : World} {f p sb pl sq n3 n4 : Nat} {text : ByteArray} {v3 v4 v5 : Value} {xs3 xs4 : List Value} {b7 : Bool}

theorem Fs.flt (h : Fs w W f p sb pl sq n3 n4 text v3 v4 v5 xs3 xs4 b7) : f < W.heap.size := World.block_lt_of_cell? _ _ h.c0
theorem Fs.slt (h : Fs w W f p sb pl sq n3 n4 text v3 v4 v5 xs3 xs4 b7) : sb < W.heap.size := by
  obtain ⟨s, h1, _⟩ := h.seen 0 (by omega)
  exact World.block_lt_of_cell? _ _ h1

theorem Fs.slice5 (h : Fs w W f p sb pl sq n3 n4 text v3 v4 v5 xs3 xs4 b7) (U : World) : (Instr.slice 50 v5 none (some (.int .i64 0)) none).run Tryd.prog U = .ok v5 U := by
  rcases h.sl5 with rfl | ⟨g, c, rfl⟩
  · kernel_rfl
  · go_simp

/-- It stands still over what makes memory alone. -/
theorem Fs.keep (h : Fs w W f p sb pl sq n3 n4 text v3 v4 v5 xs3 xs4 b7) (k : Kp [] W W') : Fs w W' f p sb pl sq n3 n4 text v3 v4 v5 xs3 xs4 b7 := by
  have hf := h.flt
  have hs := h.slt
  have cf : ∀ i, W'.cell? ⟨f, i, none⟩ = W.cell? ⟨f, i, none⟩ := fun i => k.cell (p := ⟨f, i, none⟩) hf (by simp)
  have ff : ∀ i, W'.frozen? ⟨f, i, none⟩ = W.frozen? ⟨f, i, none⟩ := fun i => k.frozen (p := ⟨f, i, none⟩) hf (by simp)
  have ob : ∀ k', k' < W.heap.size → W'.heap[k']? = W.heap[k']? := fun k' hk => k.block k' hk (by simp)
  refine ⟨h.kp.trans k, h.flo, h.slo, h.ne, (cf _).trans h.c0, (cf _).trans h.c1, (cf _).trans h.c2, (cf _).trans h.c3, (cf _).trans h.c4, (cf _).trans h.c5, (cf _).trans h.c6, (cf _).trans h.c7, fun j hj => by rw [cf]; exact h.has j hj, fun i => (ff i).trans (h.free i), fun i hi => ?_, owns_of_block h.o3 (fun k' _ => ob k'), owns_of_block h.o4 (fun k' _ => ob k'), owns_of_block h.o5 (fun k' _ => ob k'), h.x3, h.x4, h.x5, h.sl5⟩
  obtain ⟨s, h1, h2, h3⟩ := h.seen i hi
  exact ⟨s, (k.cell (p := ⟨sb, i, none⟩) hs (by simp)).trans h1, h2, (k.frozen (p := ⟨sb, i, none⟩) hs (by simp)).trans h3⟩

/-- The next place. -/
theorem Fs.place (h : Fs w W f p sb pl sq n3 n4 text v3 v4 v5 xs3 xs4 b7) (q : Nat) : Fs w (W.setCell ⟨f, 2, none⟩ (.int .i64 (q : Int))) f p sb q sq n3 n4 text v3 v4 v5 xs3 xs4 b7 := by
  have k : Kp [f] W (W.setCell ⟨f, 2, none⟩ (.int .i64 (q : Int))) := Kp.setCell _ _ (by simp)
  have cf : ∀ i, i ≠ 2 → (W.setCell ⟨f, 2, none⟩ (.int .i64 (q : Int))).cell? ⟨f, i, none⟩ = W.cell? ⟨f, i, none⟩ := fun i hi => cell_other _ (fun e => by injection e with _ e2 _; exact hi e2.symm)
  have ob : ∀ k', k' ≠ f → (W.setCell ⟨f, 2, none⟩ (.int .i64 (q : Int))).heap[k']? = W.heap[k']? := fun k' hk => Below.heap_setCell _ _ _ _ hk
  have hs := h.slt
  refine ⟨Kp.own (x := f) ((h.kp.mono (by simp)).trans k) h.flo, h.flo, h.slo, h.ne, (cf _ (by omega)).trans h.c0, (cf _ (by omega)).trans h.c1, cell_same _ h.c2, (cf _ (by omega)).trans h.c3, (cf _ (by omega)).trans h.c4, (cf _ (by omega)).trans h.c5, (cf _ (by omega)).trans h.c6, (cf _ (by omega)).trans h.c7, fun j hj => by rw [cf _ (by omega)]; exact h.has j hj, fun i => ?_, fun i hi => ?_,
    owns_of_block h.o3 (fun k' hk _ => ob k' (h.x3 k' hk).1), owns_of_block h.o4 (fun k' hk _ => ob k' (h.x4 k' hk).1), owns_of_block h.o5 (fun k' hk _ => ob k' (h.x5 k' hk).1), h.x3, h.x4, h.x5, h.sl5⟩
  · have e : (W.setCell ⟨f, 2, none⟩ (.int .i64 (q : Int))).frozen? ⟨f, i, none⟩ = W.frozen? ⟨f, i, none⟩ := by simp
    exact e.trans (h.free i)
  · obtain ⟨s, h1, h2, h3⟩ := h.seen i hi
    have hn : sb ∉ [f] := by simpa using h.ne
    exact ⟨s, (k.cell (p := ⟨sb, i, none⟩) hs hn).trans h1, h2, (k.frozen (p := ⟨sb, i, none⟩) hs hn).trans h3⟩

/-- One thread more in here. -/
theorem Fs.here {w1 w2 : World} {gh ch : Nat} {ys : List Value} (h : Fs w W f p sb pl sq n3 n4 text v3 v4 v5 xs3 xs4 b7) (k1 : Kp [] W w1) (hg : w1.grownBy w2 v3.ownBlock) (own : w2.ownsRow w.heap.size 57 22 (.slice (some ⟨gh, 0, none⟩) (n3 + 1) ch) (n3 + 1) ys)
    (hor : v3.ownBlock = some gh ∨ w1.heap.size ≤ gh) : Fs w (w2.setCell ⟨f, 3, none⟩ (.slice (some ⟨gh, 0, none⟩) (n3 + 1) ch)) f p sb pl sq (n3 + 1) n4 text (.slice (some ⟨gh, 0, none⟩) (n3 + 1) ch) v4 v5 ys xs4 b7 := by
  have h1 := h.keep k1
  have hf := h1.flt
  have hs := h1.slt
  have lo : ∀ k, v3.ownBlock = some k → w.heap.size ≤ k ∧ k < w1.heap.size := h1.o3.lt
  have b2 : ∀ k, k < w1.heap.size → v3.ownBlock ≠ some k → w2.heap[k]? = w1.heap[k]? := fun k hk hn => hg.block k hk (fun e => hn e.symm)
  have f3 : v3.ownBlock ≠ some f := fun e => (h.x3 f e).1 rfl
  have s3 : v3.ownBlock ≠ some sb := fun e => (h.x3 sb e).2.1 rfl
  have gf : gh ≠ f := fun e => by
    rcases hor with q | q
    · exact (h.x3 gh q).1 e
    · omega
  have gs : gh ≠ sb := fun e => by
    rcases hor with q | q
    · exact (h.x3 gh q).2.1 e
    · omega
  have g4 : v4.ownBlock ≠ some gh := fun e => by
    rcases hor with q | q
    · exact (h.x3 gh q).2.2.1 e
    · have := (h1.o4.lt gh e).2; omega
  have g5 : v5.ownBlock ≠ some gh := fun e => by
    rcases hor with q | q
    · exact (h.x3 gh q).2.2.2 e
    · have := (h1.o5.lt gh e).2; omega
  have c2 : ∀ i, w2.cell? ⟨f, i, none⟩ = w1.cell? ⟨f, i, none⟩ := fun i => World.cell?_of_block (w := w1) (b2 f hf f3)
  have cf : ∀ i, i ≠ 3 → (w2.setCell ⟨f, 3, none⟩ (.slice (some ⟨gh, 0, none⟩) (n3 + 1) ch)).cell? ⟨f, i, none⟩ = w1.cell? ⟨f, i, none⟩ := fun i hi => (cell_other _ (fun e => by injection e with _ e2 _; exact hi e2.symm)).trans (c2 i)
  have bl : ∀ k, k < w1.heap.size → k ≠ f → v3.ownBlock ≠ some k → (w2.setCell ⟨f, 3, none⟩ (.slice (some ⟨gh, 0, none⟩) (n3 + 1) ch)).heap[k]? = w1.heap[k]? := fun k hk hkf hn => (Below.heap_setCell _ _ _ _ hkf).trans (b2 k hk hn)
  refine ⟨⟨hg.os.trans h1.kp.os, hg.tape.trans h1.kp.tape, hg.output.trans h1.kp.output, ?_, fun k hk _ => ?_⟩, h.flo, h.slo, h.ne, (cf _ (by omega)).trans h1.c0, (cf _ (by omega)).trans h1.c1, (cf _ (by omega)).trans h1.c2, cell_same _ ((c2 3).trans h1.c3), (cf _ (by omega)).trans h1.c4, (cf _ (by omega)).trans h1.c5, (cf _ (by omega)).trans h1.c6, (cf _ (by omega)).trans h1.c7, fun j hj => by rw [cf _ (by omega)]; exact h1.has j hj, fun i => ?_, fun i hi => ?_,
    ownsRow_setCell_far own gf, owns_of_block h1.o4 (fun k hk hl => bl k hl (h.x4 k hk).1 (fun e => (h.x3 k e).2.2.1 hk)), owns_of_block h1.o5 (fun k hk hl => bl k hl (h.x5 k hk).1 (fun e => (h.x3 k e).2.2.2 hk)), fun k hk => ?_, h.x4, h.x5, h.sl5⟩
  · have := Nat.le_trans h1.kp.size hg.size
    simpa [World.setCell] using this
  · have hfk : k ≠ f := by have := h.flo; omega
    exact (bl k (Nat.lt_of_lt_of_le hk h1.kp.size) hfk (fun e => by have := (lo k e).1; omega)).trans (h1.kp.block k hk (by simp))
  · have e : (w2.setCell ⟨f, 3, none⟩ (.slice (some ⟨gh, 0, none⟩) (n3 + 1) ch)).frozen? ⟨f, i, none⟩ = w2.frozen? ⟨f, i, none⟩ := by simp
    exact e.trans ((World.frozen?_of_block (w := w1) (b2 f hf f3)).trans (h1.free i))
  · obtain ⟨s, q1, q2, q3⟩ := h1.seen i hi
    have e := bl sb hs h.ne s3
    exact ⟨s, (World.cell?_of_block (w := w1) e).trans q1, q2, (World.frozen?_of_block (w := w1) e).trans q3⟩
  · have e : k = gh := by simpa [Value.ownBlock] using hk.symm
    subst e
    exact ⟨gf, gs, g4, g5⟩

/-- A way's thread is laid, and seen is marked. -/
theorem Fs.mark {a : Nat} {x : Int} (h : Fs w W f p sb pl pl n3 n4 text v3 v4 v5 xs3 xs4 b7) (ha : a < 2) (mk : Mark f w.heap.size sb a pl v5.ownBlock x W W') :
    ∃ u5, Fs w W' f p sb pl (pl + 1) n3 n4 text v3 v4 u5 xs3 xs4 b7 := by
  have hs := h.slt
  have hsr : some sb ≠ v5.ownBlock := fun e => (h.x5 sb e.symm).2 rfl
  obtain ⟨g, c, q1, q2, q3, q4⟩ := mk.left h.ne hsr hs
  have lt5 := h.o5.lt
  have gs : g ≠ sb := fun e => by
    rcases q3 with q | q
    · exact (h.x5 g q).2 e
    · omega
  have bl : ∀ k, k < W.heap.size → k ≠ f → v5.ownBlock ≠ some k → k ≠ sb → W'.heap[k]? = W.heap[k]? := fun k hk hkf hk5 hks => mk.block hk hkf (fun e => hk5 e.symm) hks
  have cf : ∀ i, i ≠ 5 → W'.cell? ⟨f, i, none⟩ = W.cell? ⟨f, i, none⟩ := mk.cell h.ne
  have g3 : ∀ k, v3.ownBlock = some k → g ≠ k := fun k hk e => by
    rcases q3 with q | q
    · exact (h.x3 k hk).2.2.2 (e ▸ q)
    · have := (h.o3.lt k hk).2; omega
  have g4 : ∀ k, v4.ownBlock = some k → g ≠ k := fun k hk e => by
    rcases q3 with q | q
    · exact (h.x4 k hk).2.2 (e ▸ q)
    · have := (h.o4.lt k hk).2; omega
  refine ⟨.slice (some ⟨g, 0, none⟩) 0 c, ⟨⟨?_, ?_, ?_, ?_, fun k hk _ => ?_⟩, h.flo, h.slo, h.ne, (cf _ (by omega)).trans h.c0, (cf _ (by omega)).trans h.c1, (cf _ (by omega)).trans h.c2, (cf _ (by omega)).trans h.c3, (cf _ (by omega)).trans h.c4, q1, (cf _ (by omega)).trans h.c6, (cf _ (by omega)).trans h.c7, fun j hj => by rw [cf _ (by omega)]; exact h.has j hj, fun i => (mk.free i).trans (h.free i), fun i hi => ?_,
    owns_of_block h.o3 (fun k hk hl => bl k hl (h.x3 k hk).1 (h.x3 k hk).2.2.2 (h.x3 k hk).2.1), owns_of_block h.o4 (fun k hk hl => bl k hl (h.x4 k hk).1 (h.x4 k hk).2.2 (h.x4 k hk).2.1), q2, fun k hk => ?_, fun k hk => ?_, fun k hk => ?_, .inr ⟨g, c, rfl⟩⟩⟩
  · obtain ⟨U, n, fm, rfl⟩ := mk.mid
    exact fm.os.trans h.kp.os
  · obtain ⟨U, n, fm, rfl⟩ := mk.mid
    exact fm.tape.trans h.kp.tape
  · obtain ⟨U, n, fm, rfl⟩ := mk.mid
    exact fm.output.trans h.kp.output
  · exact Nat.le_trans h.kp.size (Nat.le_trans (Nat.le_succ _) mk.size)
  · have := h.flo
    have := h.slo
    exact (bl k (Nat.lt_of_lt_of_le hk h.kp.size) (by omega) (fun e => by have := (lt5 k e).1; omega) (by omega)).trans (h.kp.block k hk (by simp))
  · obtain ⟨s, s1, s2, s3⟩ := h.seen i hi
    obtain ⟨U, n, fm, rfl⟩ := mk.mid
    have hb : U.heap[sb]? = W.heap[sb]? := fm.block sb hs h.ne hsr
    have e1 : U.cell? ⟨sb, i, none⟩ = _ := (World.cell?_of_block (w := W) (a := ⟨sb, i, none⟩) hb).trans s1
    have e3 : U.frozen? ⟨sb, i, none⟩ = _ := (World.frozen?_of_block (w := W) (a := ⟨sb, i, none⟩) hb).trans s3
    have e4 : ((U.drewN n).setCell ⟨sb, a, none⟩ (.int .i64 ((pl + 1 : Nat) : Int))).frozen? ⟨sb, i, none⟩ = U.frozen? ⟨sb, i, none⟩ := by simp
    by_cases hia : i = a
    · subst hia
      exact ⟨((pl + 1 : Nat) : Int), cell_same (w := U.drewN n) _ e1, Int.le_refl _, e4.trans e3⟩
    · exact ⟨s, (cell_other (w := U.drewN n) _ (fun e => by injection e with _ e2 _; exact hia e2.symm)).trans e1, by omega, e4.trans e3⟩
  · have q := h.x3 k hk
    exact ⟨q.1, q.2.1, q.2.2.1, fun e => g3 k hk (by simpa [Value.ownBlock] using e)⟩
  · have q := h.x4 k hk
    exact ⟨q.1, q.2.1, fun e => g4 k hk (by simpa [Value.ownBlock] using e)⟩
  · have e : k = g := by simpa [Value.ownBlock] using hk.symm
    subst e
    exact ⟨q4, gs⟩

/-- The lists change places. -/
theorem Fs.swap {gh n ch : Nat} {xs : List Value} (h : Fs w W f p sb pl sq n n4 text (.slice (some ⟨gh, 0, none⟩) n ch) v4 v5 xs xs4 b7) (s : Swapped f v4 (.slice (some ⟨gh, 0, none⟩) 0 ch) W W') :
    Fs w W' f p sb pl sq n4 0 text v4 (.slice (some ⟨gh, 0, none⟩) 0 ch) v5 xs4 [] b7 := by
  have hs := h.slt
  have cf := s.cell
  have ob : ∀ k, k < W.heap.size → k ≠ f → W'.heap[k]? = W.heap[k]? := fun k hk hkf => s.kept.block k hk (by simpa using hkf)
  have x3 := h.x3 gh rfl
  refine ⟨Kp.own (x := f) ((h.kp.mono (by simp)).trans s.kept) h.flo, h.flo, h.slo, h.ne, (cf _ (by omega) (by omega)).trans h.c0, (cf _ (by omega) (by omega)).trans h.c1, (cf _ (by omega) (by omega)).trans h.c2, s.c3, s.c4, (cf _ (by omega) (by omega)).trans h.c5, (cf _ (by omega) (by omega)).trans h.c6, (cf _ (by omega) (by omega)).trans h.c7, fun j hj => by rw [cf _ (by omega) (by omega)]; exact h.has j hj, fun i => (s.free i).trans (h.free i), fun i hi => ?_,
    owns_of_block h.o4 (fun k hk hl => ob k hl (h.x4 k hk).1), owns_of_block (ownsRow_empty h.o3) (fun k hk hl => ob k hl ?_), owns_of_block h.o5 (fun k hk hl => ob k hl (h.x5 k hk).1), fun k hk => ?_, fun k hk => ?_, h.x5, h.sl5⟩
  · obtain ⟨q, q1, q2, q3⟩ := h.seen i hi
    have e := ob sb hs h.ne
    exact ⟨q, (World.cell?_of_block (w := W) e).trans q1, q2, (World.frozen?_of_block (w := W) e).trans q3⟩
  · have e : k = gh := by simpa [Value.ownBlock] using hk.symm
    rw [e]; exact x3.1
  · have q := h.x4 k hk
    refine ⟨q.1, q.2.1, fun e => ?_, q.2.2⟩
    have e : k = gh := by simpa [Value.ownBlock] using e.symm
    subst e
    exact x3.2.2.1 hk
  · have e : k = gh := by simpa [Value.ownBlock] using hk.symm
    subst e
    exact ⟨x3.1, x3.2.1, x3.2.2.2⟩

/-- The byte was taken. -/
theorem Fs.hit {g' c' : Nat} {ys : List Value} (h : Fs w W f p sb pl sq n3 n4 text v3 v4 v5 xs3 xs4 b7) (hc : W'.cell? ⟨f, 4, none⟩ = some (.slice (some ⟨g', 0, none⟩) (n4 + 1) c')) (ho : W'.ownsRow w.heap.size 57 22 (.slice (some ⟨g', 0, none⟩) (n4 + 1) c') (n4 + 1) ys)
    (hor : v4.ownBlock = some g' ∨ W.heap.size ≤ g') (hh : Hit f v4.ownBlock W W') : Fs w W' f p sb pl sq n3 (n4 + 1) text v3 (.slice (some ⟨g', 0, none⟩) (n4 + 1) c') v5 xs3 ys b7 := by
  have hf := h.flt
  have hs := h.slt
  have cf := hh.cell
  have ob : ∀ k, k < W.heap.size → k ≠ f → v4.ownBlock ≠ some k → W'.heap[k]? = W.heap[k]? := fun k hk hkf hk4 => hh.block k hk hkf (fun e => hk4 e.symm)
  have s4 : v4.ownBlock ≠ some sb := fun e => (h.x4 sb e).2.1 rfl
  refine ⟨⟨hh.os.trans h.kp.os, hh.tape.trans h.kp.tape, hh.output.trans h.kp.output, Nat.le_trans h.kp.size hh.size, fun k hk _ => ?_⟩, h.flo, h.slo, h.ne, (cf _ (by omega)).trans h.c0, (cf _ (by omega)).trans h.c1, (cf _ (by omega)).trans h.c2, (cf _ (by omega)).trans h.c3, hc, (cf _ (by omega)).trans h.c5, (cf _ (by omega)).trans h.c6, (cf _ (by omega)).trans h.c7, fun j hj => by rw [cf _ (by omega)]; exact h.has j hj, fun i => (hh.free i).trans (h.free i), fun i hi => ?_,
    owns_of_block h.o3 (fun k hk hl => ob k hl (h.x3 k hk).1 (h.x3 k hk).2.2.1), ho, owns_of_block h.o5 (fun k hk hl => ob k hl (h.x5 k hk).1 (fun e => (h.x4 k e).2.2 hk)), fun k hk => ?_, fun k hk => ?_, h.x5, h.sl5⟩
  · have := h.flo
    exact (ob k (Nat.lt_of_lt_of_le hk h.kp.size) (by omega) (fun e => by have := (h.o4.lt k e).1; omega)).trans (h.kp.block k hk (by simp))
  · obtain ⟨q, q1, q2, q3⟩ := h.seen i hi
    have e := ob sb hs h.ne s4
    exact ⟨q, (World.cell?_of_block (w := W) e).trans q1, q2, (World.frozen?_of_block (w := W) e).trans q3⟩
  · have q := h.x3 k hk
    refine ⟨q.1, q.2.1, fun e => ?_, q.2.2.2⟩
    have e : g' = k := by simpa [Value.ownBlock] using e
    subst e
    rcases hor with r | r
    · exact q.2.2.1 r
    · have := (h.o3.lt _ hk).2; omega
  · have e : k = g' := by simpa [Value.ownBlock] using hk.symm
    subst e
    rcases hor with r | r
    · exact h.x4 k r
    · refine ⟨by omega, by omega, fun e => ?_⟩
      have := (h.o5.lt _ e).2; omega

/-- The finder when the pattern's end was come to. -/
structure Fe (w W : World) (f pl : Nat) (text : ByteArray) (x y : Int) : Prop where
  kp : Kp [] w W
  flo : w.heap.size ≤ f
  c1 : W.cell? ⟨f, 1, none⟩ = some (.string text)
  c2 : W.cell? ⟨f, 2, none⟩ = some (.int .i64 pl)
  c7 : W.cell? ⟨f, 7, none⟩ = some (.bool true)
  c8 : W.cell? ⟨f, 8, none⟩ = some (.int .i64 x)
  c9 : W.cell? ⟨f, 9, none⟩ = some (.int .i64 y)
  free : ∀ i, W.frozen? ⟨f, i, none⟩ = false

theorem Fe.place {x y : Int} (h : Fe w W f pl text x y) (q : Nat) : Fe w (W.setCell ⟨f, 2, none⟩ (.int .i64 (q : Int))) f q text x y := by
  have k : Kp [f] W (W.setCell ⟨f, 2, none⟩ (.int .i64 (q : Int))) := Kp.setCell _ _ (by simp)
  have cf : ∀ i, i ≠ 2 → (W.setCell ⟨f, 2, none⟩ (.int .i64 (q : Int))).cell? ⟨f, i, none⟩ = W.cell? ⟨f, i, none⟩ := fun i hi => cell_other _ (fun e => by injection e with _ e2 _; exact hi e2.symm)
  refine ⟨Kp.own (x := f) ((h.kp.mono (by simp)).trans k) h.flo, h.flo, (cf _ (by omega)).trans h.c1, cell_same _ h.c2, (cf _ (by omega)).trans h.c7, (cf _ (by omega)).trans h.c8, (cf _ (by omega)).trans h.c9, fun i => ?_⟩
  have e : (W.setCell ⟨f, 2, none⟩ (.int .i64 (q : Int))).frozen? ⟨f, i, none⟩ = W.frozen? ⟨f, i, none⟩ := by simp
  exact e.trans (h.free i)

theorem Fs.ends {x : Int} {v v' : Value} {U : World} (h : Fs w W f p sb pl sq n3 n4 text v3 v4 v5 xs3 xs4 b7) (en : Ends f x pl W U) (s : Swapped f v v' U W') : Fe w W' f pl text x pl :=
  ⟨Kp.own (x := f) ((h.kp.mono (by simp)).trans (en.kept.trans s.kept)) h.flo, h.flo, (s.cell _ (by omega) (by omega)).trans ((en.cell _ (by omega)).trans h.c1), (s.cell _ (by omega) (by omega)).trans ((en.cell _ (by omega)).trans h.c2),
    (s.cell _ (by omega) (by omega)).trans en.found, (s.cell _ (by omega) (by omega)).trans en.best0, (s.cell _ (by omega) (by omega)).trans en.best1, fun i => (s.free i).trans ((en.free i).trans (h.free i))⟩
end
end Go.Proofs.YtbakfojamdocgaaDoor
