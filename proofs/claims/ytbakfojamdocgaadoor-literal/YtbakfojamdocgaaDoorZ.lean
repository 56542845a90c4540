/- The finder: one way at a place, at an instruction that takes a byte: seen is marked, and the way goes on or ends. -/
import Derived.Test.YtbakfojamdocgaaDoorX
namespace Go.Proofs.YtbakfojamdocgaaDoor
open Go.RowKit

/-- What the finder's calls read at a place: block f, pattern p with its code in block g, seen in block sb; instruction a takes the bytes of m. -/
structure At (w : World) (f p g c sb a pl : Nat) (text : ByteArray) (m : Nat → Bool) : Prop where
  c0 : w.cell? ⟨f, 0, none⟩ = some (.pointer (some ⟨p, 0, none⟩))
  c1 : w.cell? ⟨f, 1, none⟩ = some (.string text)
  c2 : w.cell? ⟨f, 2, none⟩ = some (.int .i64 pl)
  c6 : w.cell? ⟨f, 6, none⟩ = some (.slice (some ⟨sb, 0, none⟩) 2 2)
  p0 : w.cell? ⟨p, 0, none⟩ = some (.slice (some ⟨g, 0, none⟩) 2 c)
  p3 : w.cell? ⟨p, 3, none⟩ = some (.int .i64 0)
  seen : ∃ s : Int, w.cell? ⟨sb, a, none⟩ = some (.int .i64 s) ∧ s ≤ pl ∧ w.frozen? ⟨sb, a, none⟩ = false
  ha : a < 2
  hpl : pl ≤ 1000

theorem At.first {w : World} {f p g c sb a pl t : Nat} {text : ByteArray} {m : Nat → Bool} (h : At w f p g c sb a pl text m) (t0 : w.cell? ⟨t, 0, none⟩ = some (.int .i64 a)) (t1 : w.cell? ⟨t, 1, none⟩ = some (.int .i64 (0 : Nat))) :
    Calls Tryd.prog 27 #[.pointer (some ⟨f, 0, none⟩), .pointer (some ⟨t, 0, none⟩)] w fun e w' => e = .returned (.bool true) ∧ ∃ n, w' = (w.drewN n).setCell ⟨sb, a, none⟩ (.int .i64 ((pl + 1 : Nat) : Int)) := by
  obtain ⟨s, h1, h2, h3⟩ := h.seen
  have hp := h.hpl
  have ha := h.ha
  refine first_yes (dp := 0) (dp1 := 1) (m1 := a) (tk := 0) (idx := a) (pl := pl) (pl1 := pl + 1) (N := 2) h.c0 h.c2 h.c6 h.p3 t0 t1 h1 h3 ?_ ha (by omega) (by omega) (by omega) (by omega) (by omega) (by omega) (by omega) (by omega)
  rw [beq_eq_false_iff_ne]; omega

/-- It stands still over what is not written. -/
theorem At.of_mid {w W : World} {f p g c sb a pl B : Nat} {text : ByteArray} {m : Nat → Bool} {row : Option Nat} {nx dp x : Int} (h : At w f p g c sb a pl text m) (fm : FMid f B row nx dp x w W)
    (hpf : p ≠ f) (hpr : some p ≠ row) (hsf : sb ≠ f) (hsr : some sb ≠ row) : At W f p g c sb a pl text m := by
  obtain ⟨s, h1, h2, h3⟩ := h.seen
  have hpl := World.block_lt_of_cell? _ _ h.p0
  have hsl := World.block_lt_of_cell? _ _ h1
  have cp : ∀ i, W.cell? ⟨p, i, none⟩ = w.cell? ⟨p, i, none⟩ := fun i => World.cell?_of_block (w := w) (fm.block p hpl hpf hpr)
  have cs : ∀ i, W.cell? ⟨sb, i, none⟩ = w.cell? ⟨sb, i, none⟩ := fun i => World.cell?_of_block (w := w) (fm.block sb hsl hsf hsr)
  have fs : ∀ i, W.frozen? ⟨sb, i, none⟩ = w.frozen? ⟨sb, i, none⟩ := fun i => World.frozen?_of_block (w := w) (fm.block sb hsl hsf hsr)
  exact ⟨(fm.cell 0 (by omega)).trans h.c0, (fm.cell 1 (by omega)).trans h.c1, (fm.cell 2 (by omega)).trans h.c2, (fm.cell 6 (by omega)).trans h.c6, (cp 0).trans h.p0, (cp 3).trans h.p3, ⟨s, (cs a).trans h1, h2, (fs a).trans h3⟩, h.ha, h.hpl⟩

/-- The instruction's cells. -/
structure Ins (w : World) (g a : Nat) (m : Nat → Bool) : Prop where
  i0 : w.cell? ⟨g, a * 9, none⟩ = some (.int .i64 0)
  i1 : w.cell? ⟨g, a * 9 + 1, none⟩ = some (.int .i64 0)
  i4 : w.cell? ⟨g, a * 9 + 4, none⟩ = some (.int .i64 0)
  i5 : w.cell? ⟨g, a * 9 + 5, none⟩ = some (.int .u64 (wd m 0))
  i6 : w.cell? ⟨g, a * 9 + 5 + 1, none⟩ = some (.int .u64 (wd m 1))
  i7 : w.cell? ⟨g, a * 9 + 5 + 2, none⟩ = some (.int .u64 (wd m 2))
  i8 : w.cell? ⟨g, a * 9 + 5 + 3, none⟩ = some (.int .u64 (wd m 3))

theorem Ins.of {w W : World} {g a : Nat} {m : Nat → Bool} (h : Ins w g a m) (hb : ∀ i, W.cell? ⟨g, i, none⟩ = w.cell? ⟨g, i, none⟩) : Ins W g a m :=
  ⟨(hb _).trans h.i0, (hb _).trans h.i1, (hb _).trans h.i4, (hb _).trans h.i5, (hb _).trans h.i6, (hb _).trans h.i7, (hb _).trans h.i8⟩

/-- The world in which the instruction is done: the way's thread is laid, and seen is marked. -/
structure Mark (f B sb a pl : Nat) (row : Option Nat) (x : Int) (w W1 : World) : Prop where
  mid : ∃ W n, FMid f B row a 0 x w W ∧ W1 = (W.drewN n).setCell ⟨sb, a, none⟩ (.int .i64 ((pl + 1 : Nat) : Int))

theorem Mark.cell {f B sb a pl : Nat} {row : Option Nat} {x : Int} {w W1 : World} (h : Mark f B sb a pl row x w W1) (hsf : sb ≠ f) : ∀ i, i ≠ 5 → W1.cell? ⟨f, i, none⟩ = w.cell? ⟨f, i, none⟩ := by
  obtain ⟨W, n, fm, rfl⟩ := h.mid
  exact fun i hi => (cell_other (w := W.drewN n) _ (fun e => by injection e with e1 _ _; exact hsf e1)).trans (fm.cell i hi)
theorem Mark.block {f B sb a pl : Nat} {row : Option Nat} {x : Int} {w W1 : World} (h : Mark f B sb a pl row x w W1) {k : Nat} (hk : k < w.heap.size) (hkf : k ≠ f) (hkr : some k ≠ row) (hks : k ≠ sb) : W1.heap[k]? = w.heap[k]? := by
  obtain ⟨W, n, fm, rfl⟩ := h.mid
  rw [Below.heap_setCell _ _ _ _ hks]
  exact fm.block k hk hkf hkr
theorem Mark.thread {f B sb a pl : Nat} {row : Option Nat} {x : Int} {w W1 : World} (h : Mark f B sb a pl row x w W1) (hst : sb ≠ w.heap.size) : W1.rangeAt w.heap.size 0 (th a 0 x) := by
  obtain ⟨W, n, fm, rfl⟩ := h.mid
  exact rangeAt_keep (rangeAt_keep fm.thread (Kp.drewN [] W n) (by simp)) (Kp.setCell (S := [sb]) _ _ (by simp)) (by simpa using Ne.symm hst)

/-- A way that ends at this place, whatever the step leaves (R). -/
theorem follow_at {w : World} {f p g c sb a pl B : Nat} {text : ByteArray} {m : Nat → Bool} {v5 v5' : Value} {x : Int} (R : World → Prop) (h : At w f p g c sb a pl text m)
    (c5 : w.cell? ⟨f, 5, none⟩ = some v5) (hf5 : some f ≠ v5'.ownBlock) (f5 : w.frozen? ⟨f, 5, none⟩ = false) (hown : w.ownsRow B 57 22 v5' 0 []) (hB : B ≤ w.heap.size)
    (hsl : ∀ W : World, (Instr.slice 50 v5 none (some (.int .i64 0)) none).run Tryd.prog W = .ok v5' W)
    (hpf : p ≠ f) (hpr : some p ≠ v5'.ownBlock) (hsf : sb ≠ f) (hsr : some sb ≠ v5'.ownBlock)
    (h2 : ∀ W, Mark f B sb a pl v5'.ownBlock x w W → Calls Tryd.prog 28 #[.pointer (some ⟨f, 0, none⟩), .pointer (some ⟨w.heap.size, 0, none⟩)] W fun e W' => e = .returned (.bool false) ∧ R W')
    (h3 : ∀ W, R W → ∃ g c, W.cell? ⟨f, 5, none⟩ = some (.slice (some ⟨g, 0, none⟩) 0 c)) :
    Calls Tryd.prog 23 #[.pointer (some ⟨f, 0, none⟩), .agg (th a 0 x).toArray] w fun e w' => e = .returned (.tuple #[]) ∧ R w' := by
  refine follow_one (Mark f B sb a pl v5'.ownBlock x w) R c5 hf5 f5 hown hB hsl (fun W fm => ?_) h2 h3
  refine ((h.of_mid fm hpf hpr hsf hsr).first (t := w.heap.size) (fm.thread 0 _ rfl) (fm.thread 1 _ rfl)).mono fun e W' ⟨he, n, hW⟩ => ⟨he, ⟨W, n, fm, hW⟩⟩

theorem Mark.left {f B sb a pl : Nat} {row : Option Nat} {x : Int} {w W1 : World} (h : Mark f B sb a pl row x w W1) (hsf : sb ≠ f) (hsg : some sb ≠ row) (hsl : sb < w.heap.size) :
    ∃ g c, W1.cell? ⟨f, 5, none⟩ = some (.slice (some ⟨g, 0, none⟩) 0 c) ∧ W1.ownsRow B 57 22 (.slice (some ⟨g, 0, none⟩) 0 c) 0 [] ∧ (row = some g ∨ w.heap.size < g) ∧ g ≠ f := by
  obtain ⟨W, n, fm, rfl⟩ := h.mid
  obtain ⟨g, c, h1, h2, h3, h4⟩ := fm.left
  have hgs : g ≠ sb := fun e => by
    rcases h3 with q | q
    · rw [q, e] at hsg; exact hsg rfl
    · omega
  exact ⟨g, c, (cell_other (w := W.drewN n) _ (fun e => by injection e with e1 _ _; exact hsf e1)).trans h1, ownsRow_setCell_far (w := W.drewN n) h2 hgs, h3, h4⟩

/-- The way ends here: no byte is left, or it is none of the set. -/
def Still (f B sb a pl : Nat) (row : Option Nat) (x : Int) (w w' : World) : Prop := ∃ W1, Mark f B sb a pl row x w W1 ∧ Kp [] W1 w'

theorem follow_still {w : World} {f p g c sb a pl B : Nat} {text : ByteArray} {m : Nat → Bool} {v5 v5' : Value} {x : Int} (h : At w f p g c sb a pl text m) (hi : Ins w g a m)
    (c5 : w.cell? ⟨f, 5, none⟩ = some v5) (hf5 : some f ≠ v5'.ownBlock) (f5 : w.frozen? ⟨f, 5, none⟩ = false) (hown : w.ownsRow B 57 22 v5' 0 []) (hB : B ≤ w.heap.size)
    (hsl : ∀ W : World, (Instr.slice 50 v5 none (some (.int .i64 0)) none).run Tryd.prog W = .ok v5' W)
    (hpf : p ≠ f) (hpr : some p ≠ v5'.ownBlock) (hps : p ≠ sb) (hsf : sb ≠ f) (hsr : some sb ≠ v5'.ownBlock) (hgf : g ≠ f) (hgr : some g ≠ v5'.ownBlock) (hgs : g ≠ sb)
    (hend : decide (pl < text.size) = false ∨ ∃ hlt : pl < text.size, m (text[pl]'hlt).toNat = false) :
    Calls Tryd.prog 23 #[.pointer (some ⟨f, 0, none⟩), .agg (th a 0 x).toArray] w fun e w' => e = .returned (.tuple #[]) ∧ Still f B sb a pl v5'.ownBlock x w w' := by
  obtain ⟨s, s1, _, _⟩ := h.seen
  have hsl' := World.block_lt_of_cell? _ _ s1
  have hpl := World.block_lt_of_cell? _ _ h.p0
  have hgl := World.block_lt_of_cell? _ _ hi.i0
  refine follow_at _ h c5 hf5 f5 hown hB hsl hpf hpr hsf hsr (fun W mk => ?_) (fun W ⟨W1, mk, k⟩ => ?_)
  · have k0 := (mk.cell hsf 0 (by omega)).trans h.c0
    have k1 := (mk.cell hsf 1 (by omega)).trans h.c1
    have k2 := (mk.cell hsf 2 (by omega)).trans h.c2
    have kp : W.cell? ⟨p, 0, none⟩ = _ := (World.cell?_of_block (w := w) (mk.block hpl hpf hpr hps)).trans h.p0
    have ki := hi.of (W := W) (fun i => World.cell?_of_block (w := w) (mk.block hgl hgf hgr hgs))
    have kt := mk.thread (by show sb ≠ w.heap.size; simp at hsl'; omega) 0 _ rfl
    rcases hend with he | ⟨hlt, hm⟩
    · exact (step_byte_end k0 k1 k2 kp kt h.ha ki.i0 he).mono fun e W' ⟨he, hk⟩ => ⟨he, W, mk, hk⟩
    · exact (step_byte_miss k0 k1 k2 kp kt h.ha ki.i0 ki.i5 ki.i6 ki.i7 ki.i8 hlt hm).mono fun e W' ⟨he, hk⟩ => ⟨he, W, mk, hk⟩
  · obtain ⟨g5, c5', q1, _⟩ := mk.left hsf hsr hsl'
    exact ⟨g5, c5', (k.cell (World.block_lt_of_cell? _ _ q1) (by simp)).trans q1⟩

theorem Mark.size {f B sb a pl : Nat} {row : Option Nat} {x : Int} {w W1 : World} (h : Mark f B sb a pl row x w W1) : w.heap.size + 1 ≤ W1.heap.size := by
  obtain ⟨W, n, fm, rfl⟩ := h.mid
  have := fm.size
  simpa [World.setCell] using this
theorem Mark.free {f B sb a pl : Nat} {row : Option Nat} {x : Int} {w W1 : World} (h : Mark f B sb a pl row x w W1) (i : Nat) : W1.frozen? ⟨f, i, none⟩ = w.frozen? ⟨f, i, none⟩ := by
  obtain ⟨W, n, fm, rfl⟩ := h.mid
  have h1 : ((W.drewN n).setCell ⟨sb, a, none⟩ (.int .i64 ((pl + 1 : Nat) : Int))).frozen? ⟨f, i, none⟩ = W.frozen? ⟨f, i, none⟩ := by simp
  exact h1.trans (fm.free i)
theorem Mark.owns {f B sb a pl B' n : Nat} {row : Option Nat} {x : Int} {w W1 : World} {v : Value} {xs : List Value} {e : TypeId} {size : Nat} (h : Mark f B sb a pl row x w W1) (ho : w.ownsRow B' e size v n xs)
    (hd : ∀ k, v.ownBlock = some k → k ≠ f ∧ some k ≠ row ∧ k ≠ sb) : W1.ownsRow B' e size v n xs := by
  refine ⟨ho.1, ?_⟩
  rcases ho.2 with q | ⟨g', cap, cur, q1, q2, q3, q4⟩
  · exact .inl q
  · obtain ⟨d1, d2, d3⟩ := hd g' (by rw [q1]; rfl)
    exact .inr ⟨g', cap, cur, q1, q2, (h.block (lt_of_block q3) d1 d2 d3).trans q3, q4⟩

theorem notes_of {W : World} {t a : Nat} {x : Int} (h : W.rangeAt t 0 (th a 0 x)) : W.rangeAt t 2 (notesV x) := fun j v hv => by
  have := h (j + 2) v hv
  rwa [show 0 + (j + 2) = 2 + j by omega] at this

/-- The byte is taken: one thread more in ahead. -/
def Taken (f B sb a pl nA : Nat) (row : Option Nat) (v4 : Value) (xs : List Value) (x : Int) (w w' : World) : Prop :=
  ∃ W1, Mark f B sb a pl row x w W1 ∧ ∃ g' c', w'.cell? ⟨f, 4, none⟩ = some (.slice (some ⟨g', 0, none⟩) (nA + 1) c') ∧ w'.ownsRow B 57 22 (.slice (some ⟨g', 0, none⟩) (nA + 1) c') (nA + 1) (xs ++ th 0 0 x) ∧
    (v4.ownBlock = some g' ∨ W1.heap.size ≤ g') ∧ Hit f v4.ownBlock W1 w'

theorem follow_hit {w : World} {f p g c sb a pl B nA : Nat} {text : ByteArray} {m : Nat → Bool} {v4 v5 v5' : Value} {xs : List Value} {x : Int} (h : At w f p g c sb a pl text m) (hi : Ins w g a m)
    (c4 : w.cell? ⟨f, 4, none⟩ = some v4) (f4 : w.frozen? ⟨f, 4, none⟩ = false) (hown4 : w.ownsRow B 57 22 v4 nA xs) (hnA : nA ≤ 100000) (hd4 : ∀ k, v4.ownBlock = some k → k ≠ f ∧ some k ≠ v5'.ownBlock ∧ k ≠ sb)
    (c5 : w.cell? ⟨f, 5, none⟩ = some v5) (hf5 : some f ≠ v5'.ownBlock) (f5 : w.frozen? ⟨f, 5, none⟩ = false) (hown : w.ownsRow B 57 22 v5' 0 []) (hB : B ≤ w.heap.size)
    (hsl : ∀ W : World, (Instr.slice 50 v5 none (some (.int .i64 0)) none).run Tryd.prog W = .ok v5' W)
    (hpf : p ≠ f) (hpr : some p ≠ v5'.ownBlock) (hps : p ≠ sb) (hsf : sb ≠ f) (hsr : some sb ≠ v5'.ownBlock) (hgf : g ≠ f) (hgr : some g ≠ v5'.ownBlock) (hgs : g ≠ sb) (hgB : g < B)
    (hlt : pl < text.size) (hm : m (text[pl]).toNat = true) :
    Calls Tryd.prog 23 #[.pointer (some ⟨f, 0, none⟩), .agg (th a 0 x).toArray] w fun e w' => e = .returned (.tuple #[]) ∧ Taken f B sb a pl nA v5'.ownBlock v4 xs x w w' := by
  obtain ⟨s, s1, _, _⟩ := h.seen
  have hsl' := World.block_lt_of_cell? _ _ s1
  have hpl := World.block_lt_of_cell? _ _ h.p0
  have hgl := World.block_lt_of_cell? _ _ hi.i0
  have hft : sb ≠ w.heap.size := by show sb ≠ w.heap.size; simp at hsl'; omega
  refine follow_at _ h c5 hf5 f5 hown hB hsl hpf hpr hsf hsr (fun W mk => ?_) (fun W ⟨W1, mk, g', c', _, _, _, hit⟩ => ?_)
  · have k0 := (mk.cell hsf 0 (by omega)).trans h.c0
    have k1 := (mk.cell hsf 1 (by omega)).trans h.c1
    have k2 := (mk.cell hsf 2 (by omega)).trans h.c2
    have k4 := (mk.cell hsf 4 (by omega)).trans c4
    have kp : W.cell? ⟨p, 0, none⟩ = _ := (World.cell?_of_block (w := w) (mk.block hpl hpf hpr hps)).trans h.p0
    have ki := hi.of (W := W) (fun i => World.cell?_of_block (w := w) (mk.block hgl hgf hgr hgs))
    have kt := mk.thread hft
    have ko := mk.owns hown4 hd4
    have hsz := mk.size
    refine (step_byte_hit (B := B) k0 k1 k2 k4 ((mk.free 4).trans f4) ko (by omega) (fun e => (hd4 f e.symm).1 rfl) (own_ne ko hgB) (own_ne_new hown4) hnA kp (kt 0 _ rfl) (notes_of kt) h.ha ki.i0 ki.i1 ki.i4 ki.i5 ki.i6 ki.i7 ki.i8 hlt hm).mono fun e W' ⟨he, hk⟩ => ⟨he, W, mk, ?_⟩
    exact hk
  · obtain ⟨g5, c5', q1, _⟩ := mk.left hsf hsr hsl'
    exact ⟨g5, c5', (hit.cell 5 (by omega)).trans q1⟩

/-- The pattern's end was come to. -/
def FoundAt (f B sb a pl : Nat) (row : Option Nat) (x : Int) (w w' : World) : Prop := ∃ W1, Mark f B sb a pl row x w W1 ∧ Ends f x pl W1 w'

theorem follow_found {w : World} {f p g c sb a pl B : Nat} {text : ByteArray} {m : Nat → Bool} {v5 v5' : Value} {x : Int} {b7 : Bool} (h : At w f p g c sb a pl text m) (i0 : w.cell? ⟨g, a * 9, none⟩ = some (.int .i64 6))
    (c7 : w.cell? ⟨f, 7, none⟩ = some (.bool b7)) (hth : w.there f 8 20) (hfr : ∀ i, w.frozen? ⟨f, i, none⟩ = false)
    (c5 : w.cell? ⟨f, 5, none⟩ = some v5) (hf5 : some f ≠ v5'.ownBlock) (hown : w.ownsRow B 57 22 v5' 0 []) (hB : B ≤ w.heap.size)
    (hsl : ∀ W : World, (Instr.slice 50 v5 none (some (.int .i64 0)) none).run Tryd.prog W = .ok v5' W)
    (hpf : p ≠ f) (hpr : some p ≠ v5'.ownBlock) (hps : p ≠ sb) (hsf : sb ≠ f) (hsr : some sb ≠ v5'.ownBlock) (hgf : g ≠ f) (hgr : some g ≠ v5'.ownBlock) (hgs : g ≠ sb) :
    Calls Tryd.prog 23 #[.pointer (some ⟨f, 0, none⟩), .agg (th a 0 x).toArray] w fun e w' => e = .returned (.tuple #[]) ∧ FoundAt f B sb a pl v5'.ownBlock x w w' := by
  obtain ⟨s, s1, _, _⟩ := h.seen
  have hsl' := World.block_lt_of_cell? _ _ s1
  have hpl := World.block_lt_of_cell? _ _ h.p0
  have hgl := World.block_lt_of_cell? _ _ i0
  have hft : sb ≠ w.heap.size := by show sb ≠ w.heap.size; simp at hsl'; omega
  refine follow_at _ h c5 hf5 (hfr 5) hown hB hsl hpf hpr hsf hsr (fun W mk => ?_) (fun W ⟨W1, mk, en⟩ => ?_)
  · have k0 := (mk.cell hsf 0 (by omega)).trans h.c0
    have k2 := (mk.cell hsf 2 (by omega)).trans h.c2
    have k7 := (mk.cell hsf 7 (by omega)).trans c7
    have kp : W.cell? ⟨p, 0, none⟩ = _ := (World.cell?_of_block (w := w) (mk.block hpl hpf hpr hps)).trans h.p0
    have ki : W.cell? ⟨g, a * 9, none⟩ = _ := (World.cell?_of_block (w := w) (mk.block hgl hgf hgr hgs)).trans i0
    have kt := mk.thread hft
    have kh : W.there f 8 20 := fun j hj => ⟨by rw [mk.cell hsf (8 + j) (by omega)]; exact (hth j hj).1, by rw [mk.free]; exact (hth j hj).2⟩
    exact (step_found k0 k2 k7 kh (fun i => (mk.free i).trans (hfr i)) kp (kt 0 _ rfl) (notes_of kt) h.ha ki).mono fun e W' ⟨he, hk⟩ => ⟨he, W, mk, hk⟩
  · obtain ⟨g5, c5', q1, _⟩ := mk.left hsf hsr hsl'
    exact ⟨g5, c5', (en.cell 5 (by omega)).trans q1⟩
end Go.Proofs.YtbakfojamdocgaaDoor
