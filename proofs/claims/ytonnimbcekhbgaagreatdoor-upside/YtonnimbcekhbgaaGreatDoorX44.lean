/- What the claim needs of: BA NA WS SA TA KW. -/
import Derived.Test.YtonnimbcekhbgaaGreatDoorX36
import Derived.Laws.OwnMore
import Derived.Laws.IdiomStrings
import Derived.Deep.RegionWith
import Derived.Test.YtonnimbcekhbgaaGreatDoorX43

/- BA. -/
namespace Go.Proofs.YtonnimbcekhbgaaGreatDoor
open Go.RowKit

/-- A block that is none of the list's. -/
def SafeT (L T : Nat) (w : World) : Prop := T < w.heap.size ∧ T ≠ L ∧ ∀ v, w.cell? ⟨L, 0, none⟩ = some v → v.ownBlock ≠ some T
/-- What is none of the list's stays. -/
def Spares (L : Nat) (w w' : World) : Prop := ∀ T, SafeT L T w → SafeT L T w' ∧ w'.heap[T]? = w.heap[T]?
theorem Spares.trans {L : Nat} {a b c : World} (h : Spares L a b) (k : Spares L b c) : Spares L a c := fun T s => by
  obtain ⟨h1, h2⟩ := h T s
  obtain ⟨k1, k2⟩ := k T h1
  exact ⟨k1, k2.trans h2⟩
theorem Spares.keep {L : Nat} {w w' : World} (hl : L < w.heap.size) (k : Kp [] w w') : Spares L w w' := fun T s => by
  refine ⟨⟨Nat.lt_of_lt_of_le s.1 k.size, s.2.1, fun v hv => s.2.2 v ?_⟩, k.block T s.1 (by simp)⟩
  rw [← hv]; exact (k.cell (p := ⟨L, 0, none⟩) hl (by simp)).symm
theorem Spares.set {L i : Nat} {w : World} (hi : i ≠ 0) (u : Value) : Spares L w (w.setCell ⟨L, i, none⟩ u) := fun T s => by
  refine ⟨⟨by simpa [World.setCell] using s.1, s.2.1, fun v hv => s.2.2 v ?_⟩, Below.heap_setCell _ _ _ _ s.2.1⟩
  rwa [cell_other _ (fun e => by injection e with _ e2 _; exact hi e2)] at hv
theorem Spares.cell {L T i : Nat} {w w' : World} {v : Value} (h : Spares L w w') (s : SafeT L T w) (hv : w.cell? ⟨T, i, none⟩ = some v) : w'.cell? ⟨T, i, none⟩ = some v :=
  (World.cell?_of_block (w := w) (h T s).2).trans hv

theorem Ls.depth {w : World} {L n : Nat} {xs : List Value} {d dp : Nat} (h : Ls w L n xs d dp) (q : Nat) : Ls (w.setCell ⟨L, 1, none⟩ (.int .i64 (q : Int))) L n xs q dp := by
  obtain ⟨v, h1, h2, h3⟩ := h.code
  have cf : ∀ i, i ≠ 1 → (w.setCell ⟨L, 1, none⟩ (.int .i64 (q : Int))).cell? ⟨L, i, none⟩ = w.cell? ⟨L, i, none⟩ := fun i hi => cell_other _ (fun e => by injection e with _ e2 _; exact hi e2.symm)
  exact ⟨by simpa [World.setCell] using h.lt, ⟨v, (cf 0 (by omega)).trans h1, owns_of_block h2 (fun k hk _ => Below.heap_setCell _ _ _ _ (by have := (h2.lt k hk).1; show k ≠ L; omega)), h3⟩, cell_same _ h.c1, (cf 2 (by omega)).trans h.c2, fun i => by simpa using h.free i⟩
theorem Ls.deep {w : World} {L n : Nat} {xs : List Value} {d dp : Nat} (h : Ls w L n xs d dp) (q : Nat) : Ls (w.setCell ⟨L, 2, none⟩ (.int .i64 (q : Int))) L n xs d q := by
  obtain ⟨v, h1, h2, h3⟩ := h.code
  have cf : ∀ i, i ≠ 2 → (w.setCell ⟨L, 2, none⟩ (.int .i64 (q : Int))).cell? ⟨L, i, none⟩ = w.cell? ⟨L, i, none⟩ := fun i hi => cell_other _ (fun e => by injection e with _ e2 _; exact hi e2.symm)
  exact ⟨by simpa [World.setCell] using h.lt, ⟨v, (cf 0 (by omega)).trans h1, owns_of_block h2 (fun k hk _ => Below.heap_setCell _ _ _ _ (by have := (h2.lt k hk).1; show k ≠ L; omega)), h3⟩, (cf 1 (by omega)).trans h.c1, cell_same _ h.c2, fun i => by simpa using h.free i⟩
theorem below_set {w : World} {L i : Nat} (v : Value) {b : Nat} (hb : L ≤ b) : Below L w (w.setCell ⟨b, i, none⟩ v) :=
  ⟨rfl, rfl, rfl, by simp [World.setCell], fun k hk => Below.heap_setCell _ _ _ _ (by show k ≠ b; omega)⟩

end Go.Proofs.YtonnimbcekhbgaaGreatDoor

/- A byte as often as may be, once at least: its instructions. -/
namespace Go.Proofs.YtonnimbcekhbgaaGreatDoor
open Go.RowKit

theorem Ls.stored {w : World} {L n g c : Nat} {xs : List Value} {d dp : Nat} (h : Ls w L n xs d dp) (hv : w.cell? ⟨L, 0, none⟩ = some (.slice (some ⟨g, 0, none⟩) n c)) (j : Nat) (u : Value) :
    Ls (w.setCell ⟨g, j, none⟩ u) L n (xs.set j u) d dp ∧ Below L w (w.setCell ⟨g, j, none⟩ u) ∧ Spares L w (w.setCell ⟨g, j, none⟩ u) := by
  obtain ⟨v, h1, h2, h3⟩ := h.code
  have e : v = .slice (some ⟨g, 0, none⟩) n c := Option.some.inj (h1.symm.trans hv)
  subst e
  have hg := (h2.lt g (by simp [Value.ownBlock])).1
  have cf : ∀ i, (w.setCell ⟨g, j, none⟩ u).cell? ⟨L, i, none⟩ = w.cell? ⟨L, i, none⟩ := fun i => cell_other _ (fun e => by injection e with e1 _ _; omega)
  refine ⟨⟨by simpa [World.setCell] using h.lt, ⟨_, (cf 0).trans h1, (h2.stored j u).1, h3⟩, (cf 1).trans h.c1, (cf 2).trans h.c2, fun i => by simpa using h.free i⟩, below_set _ (by omega), fun T s => ?_⟩
  have hne : T ≠ g := fun e => s.2.2 _ h1 (by simp [Value.ownBlock, e])
  refine ⟨⟨by simpa [World.setCell] using s.1, s.2.1, fun v' hv' => s.2.2 v' ?_⟩, Below.heap_setCell _ _ _ _ hne⟩
  rwa [cf 0] at hv'

end Go.Proofs.YtonnimbcekhbgaaGreatDoor

/- What the machine does is one thing: worked out; 'b+' in 'abbc'. -/
namespace Go.Proofs.YtonnimbcekhbgaaGreatDoor
open Go.RowKit

section
variable {cd : Nat → In} {n D : Nat} {text : ByteArray}

end

end Go.Proofs.YtonnimbcekhbgaaGreatDoor

/- NA. -/
namespace Go.Proofs.YtonnimbcekhbgaaGreatDoor
open Go.RowKit

/-- What a node writes behind n instructions, such that it goes on at next, at a depth: its instructions, and where it begins. -/
abbrev Em := Nat → Nat → Nat → List In × Nat

/-- A node: its value; its size; how many instructions it has, how deep its turns lie, and which they are. -/
structure It where
  tv : TypeId
  xv : Value
  sz : Nat
  len : Nat
  dd : Nat
  em : Em
def It.v (i : It) : Value := .iface i.tv i.xv

abbrev noIn (kind nx ot sl dp : Nat) : In := ⟨kind, nx, ot, sl, dp, noBytes⟩
/-- An instruction's cells. -/
def insI (i : In) : List Value := ins i.kind i.nx i.ot i.sl i.dp i.m
def flatI (l : List In) : List Value := l.flatMap insI
theorem insI_len (i : In) : (insI i).length = 9 := rfl
theorem flatI_len (l : List In) : (flatI l).length = l.length * 9 := by
  induction l with
  | nil => rfl
  | cons i l ih =>
    show (insI i ++ flatI l).length = (l.length + 1) * 9
    rw [List.length_append, ih, insI_len]; omega
/-- The blocks from lo to hi are as they were. -/
def Same (lo hi : Nat) (w0 w : World) : Prop := hi ≤ w.heap.size ∧ ∀ k, lo ≤ k → k < hi → w.heap[k]? = w0.heap[k]?
/-- How deep a node's turns lie, at a depth. -/
def up (d dd : Nat) : Nat := if dd = 0 then 0 else d + dd

/-- The node does as it is said to, while the blocks from lo to hi are as they are. -/
structure Nd (lo hi : Nat) (w0 : World) (i : It) : Prop where
  sized : ∃ fs, (∀ w, (method 348 i.tv i.xv "ribbon/pattern.size").run Tryz.prog w = .ok (fs, i.xv) w) ∧ (∀ v w, (callFunc fs #[v]).run Tryz.prog w = .ok (.enter fs #[v]) w) ∧ ∀ w, Same lo hi w0 w → Calls Tryz.prog fs #[i.xv] w fun e w' => e = .returned (.int .i64 i.sz) ∧ Kp [] w w'
  emits : ∃ fe, (∀ w, (method 348 i.tv i.xv "ribbon/pattern.emit").run Tryz.prog w = .ok (fe, i.xv) w) ∧ (∀ v p q w, (callFunc fe #[v, p, q]).run Tryz.prog w = .ok (.enter fe #[v, p, q]) w) ∧ ∀ (w : World) (L n : Nat) (xs : List In) (d dp next : Nat), Same lo hi w0 w → hi ≤ L → n + i.len ≤ 1000 → d + i.len ≤ 2000 → dp ≤ 10000 → Ls w L n (flatI xs) d dp →
    Calls Tryz.prog fe #[i.xv, .pointer (some ⟨L, 0, none⟩), .int .i64 next] w fun e w' => e = .returned (.int .i64 (i.em n next d).2) ∧ Ls w' L (n + i.len) (flatI (xs ++ (i.em n next d).1)) d (max dp (up d i.dd)) ∧ Below L w w' ∧ Spares L w w'
  lens : ∀ n next d, (i.em n next d).1.length = i.len
  sz : i.sz ≤ 301
  ddl : i.dd ≤ i.len

theorem Same.refl (lo : Nat) {hi : Nat} {w : World} (h : hi ≤ w.heap.size) : Same lo hi w w := ⟨h, fun _ _ _ => rfl⟩
theorem Same.kp {lo hi : Nat} {w0 w w' : World} (h : Same lo hi w0 w) (k : Kp [] w w') : Same lo hi w0 w' :=
  ⟨Nat.le_trans h.1 k.size, fun q h1 h2 => (k.block q (Nat.lt_of_lt_of_le h2 h.1) (by simp)).trans (h.2 q h1 h2)⟩
theorem Same.below {lo hi L : Nat} {w0 w w' : World} (h : Same lo hi w0 w) (k : Below L w w') (hL : hi ≤ L) : Same lo hi w0 w' :=
  ⟨Nat.le_trans h.1 k.size, fun q h1 h2 => (k.block q (Nat.lt_of_lt_of_le h2 hL)).trans (h.2 q h1 h2)⟩
theorem Same.cell {lo hi : Nat} {w0 w : World} (h : Same lo hi w0 w) {a : Addr} {v : Value} (hv : w0.cell? a = some v) (hb : lo ≤ a.block ∧ a.block < hi) : w.cell? a = some v :=
  (World.cell?_of_block (w := w0) (h.2 a.block hb.1 hb.2)).trans hv
theorem Nd.keep {lo hi : Nat} {w0 w1 : World} {i : It} (h : Nd lo hi w0 i) (k : ∀ q, lo ≤ q → q < hi → w1.heap[q]? = w0.heap[q]?) : Nd lo hi w1 i := by
  have hs : ∀ w, Same lo hi w1 w → Same lo hi w0 w := fun w s => ⟨s.1, fun q h1 h2 => (s.2 q h1 h2).trans (k q h1 h2)⟩
  obtain ⟨fs, a1, a2, a3⟩ := h.sized
  obtain ⟨fe, b1, b2, b3⟩ := h.emits
  exact ⟨⟨fs, a1, a2, fun w s => a3 w (hs w s)⟩, ⟨fe, b1, b2, fun w L n xs d dp next s hL => b3 w L n xs d dp next (hs w s) hL⟩, h.lens, h.sz, h.ddl⟩
theorem Nd.wide {lo hi lo' hi' : Nat} {w0 : World} {i : It} (h : Nd lo hi w0 i) (h1 : lo' ≤ lo) (h2 : hi ≤ hi') : Nd lo' hi' w0 i := by
  have hs : ∀ w, Same lo' hi' w0 w → Same lo hi w0 w := fun w s => ⟨Nat.le_trans h2 s.1, fun q q1 q2 => s.2 q (Nat.le_trans h1 q1) (Nat.lt_of_lt_of_le q2 h2)⟩
  obtain ⟨fs, a1, a2, a3⟩ := h.sized
  obtain ⟨fe, b1, b2, b3⟩ := h.emits
  exact ⟨⟨fs, a1, a2, fun w s => a3 w (hs w s)⟩, ⟨fe, b1, b2, fun w L n xs d dp next s hL => b3 w L n xs d dp next (hs w s) (Nat.le_trans h2 hL)⟩, h.lens, h.sz, h.ddl⟩

end Go.Proofs.YtonnimbcekhbgaaGreatDoor

/- Nodes: a row of them. -/
namespace Go.Proofs.YtonnimbcekhbgaaGreatDoor
open Go.RowKit

end Go.Proofs.YtonnimbcekhbgaaGreatDoor

/- Nodes: branches. -/
namespace Go.Proofs.YtonnimbcekhbgaaGreatDoor
open Go.RowKit

section
variable {L n : Nat} {xs : List In} {d dp : Nat} {w : World}
end

end Go.Proofs.YtonnimbcekhbgaaGreatDoor

/- Nodes: a group. -/
namespace Go.Proofs.YtonnimbcekhbgaaGreatDoor
open Go.RowKit

end Go.Proofs.YtonnimbcekhbgaaGreatDoor

/- Nodes: repeats. -/
namespace Go.Proofs.YtonnimbcekhbgaaGreatDoor
open Go.RowKit

end Go.Proofs.YtonnimbcekhbgaaGreatDoor

/- Nodes: as often as may be. -/
namespace Go.Proofs.YtonnimbcekhbgaaGreatDoor
open Go.RowKit

theorem Ls.len {w : World} {L n : Nat} {xs : List In} {d dp : Nat} (h : Ls w L n (flatI xs) d dp) : xs.length = n := by
  obtain ⟨v, _, h2, _⟩ := h.code
  have := h2.1
  rw [flatI_len] at this
  omega

end Go.Proofs.YtonnimbcekhbgaaGreatDoor

/- Nodes: repeats, whole. -/
namespace Go.Proofs.YtonnimbcekhbgaaGreatDoor
open Go.RowKit

end Go.Proofs.YtonnimbcekhbgaaGreatDoor

/- WS. -/
namespace Go.Proofs.YtonnimbcekhbgaaGreatDoor
open Go.RowKit

/-- So many steps from a way at a place to a way at a place. -/
inductive Pth (cd : Nat → In) (text : ByteArray) : Nat → Nat → Thr → Nat → Thr → Prop
  | nil {i : Nat} {t : Thr} : Pth cd text 0 i t i t
  | eps {k i e : Nat} {t u f : Thr} (hu : u ∈ eps cd text i t) (h : Pth cd text k i u e f) : Pth cd text (k + 1) i t e f
  | byte {k i e : Nat} {t f : Thr} (hb : takesB cd text i t = true) (h : Pth cd text k (i + 1) (behind cd t) e f) : Pth cd text (k + 1) i t e f

section
variable {cd : Nat → In} {text : ByteArray} {bg fr k i e pc tk : Nat} {t u f : Thr} {x : Nat → Int}

theorem Pth.trans {l j : Nat} (h : Pth cd text k i t j u) (h2 : Pth cd text l j u e f) : ∃ m, Pth cd text m i t e f := by
  induction h with
  | nil => exact ⟨_, h2⟩
  | eps hu _ ih => obtain ⟨m, q⟩ := ih h2; exact ⟨_, .eps hu q⟩
  | byte hb _ ih => obtain ⟨m, q⟩ := ih h2; exact ⟨_, .byte hb q⟩
theorem Pth.way (h : Pth cd text k i t e f) (w : Way cd text bg fr i t) : Way cd text bg fr e f := by
  induction h with
  | nil => exact w
  | eps hu _ ih => exact ih (w.eps hu)
  | byte hb _ ih => exact ih (w.byte hb)
/-- The first step of a way that comes to the end. -/
theorem pth_first (h : Pth cd text k i t e f) (h6 : (cd f.pc).kind = 6) (hk : (cd t.pc).kind ≠ 6) : ∃ k', k = k' + 1 ∧ ((∃ u ∈ eps cd text i t, Pth cd text k' i u e f) ∨ (takesB cd text i t = true ∧ Pth cd text k' (i + 1) (behind cd t) e f)) := by
  cases h with
  | nil => exact absurd h6 hk
  | eps hu h => exact ⟨_, rfl, .inl ⟨_, hu, h⟩⟩
  | byte hb h => exact ⟨_, rfl, .inr ⟨hb, h⟩⟩

theorem no_takes (h : (cd t.pc).kind ≠ 0) : takesB cd text i t = false := by unfold takesB; simp [h]

theorem first_split {nx ot sl dp : Nat} {m : Nat → Bool} (hc : cd pc = ⟨4, nx, ot, sl, dp, m⟩) (h : Pth cd text k i ⟨pc, tk, x⟩ e f) (h6 : (cd f.pc).kind = 6) : ∃ k', k = k' + 1 ∧ (Pth cd text k' i ⟨nx, tk, x⟩ e f ∨ Pth cd text k' i ⟨ot, tk, x⟩ e f) := by
  obtain ⟨k', e1, ⟨u, hu, p⟩ | ⟨hb, _⟩⟩ := pth_first h h6 (by show (cd pc).kind ≠ 6; rw [hc]; simp)
  · unfold Go.Proofs.YtonnimbcekhbgaaGreatDoor.eps epsC noteE at hu
    simp [hc] at hu
    rcases hu with rfl | rfl
    · exact ⟨k', e1, .inl p⟩
    · exact ⟨k', e1, .inr p⟩
  · rw [no_takes (by show (cd pc).kind ≠ 0; rw [hc]; simp)] at hb; cases hb
theorem step_eps {nx tk' : Nat} {x' : Nat → Int} (h : (⟨nx, tk', x'⟩ : Thr) ∈ eps cd text i ⟨pc, tk, x⟩) : Pth cd text 1 i ⟨pc, tk, x⟩ i ⟨nx, tk', x'⟩ := .eps h .nil
end

/-- From a place, turns and notes to such. -/
abbrev Rl := Nat → Nat → (Nat → Int) → Nat → Nat → (Nat → Int) → Prop
def mId : Rl := fun i tk x j tk' x' => j = i ∧ tk' = tk ∧ x' = x
def mOr (A B : Rl) : Rl := fun i tk x j tk' x' => A i tk x j tk' x' ∨ B i tk x j tk' x'
/-- The code has these instructions from n on. -/
def AtC (cd : Nat → In) (n : Nat) (l : List In) : Prop := ∀ k i, l[k]? = some i → cd (n + k) = i
theorem AtC.left {cd : Nat → In} {n : Nat} {a b : List In} (h : AtC cd n (a ++ b)) : AtC cd n a := fun k i hk => h k i (by
  rw [List.getElem?_append_left (List.getElem?_eq_some_iff.1 hk).1]; exact hk)
theorem AtC.right {cd : Nat → In} {n l : Nat} {a b : List In} (h : AtC cd n (a ++ b)) (hl : a.length = l) : AtC cd (n + l) b := fun k i hk => by
  have := h (l + k) i (by rw [List.getElem?_append_right (by omega), hl, Nat.add_sub_cancel_left]; exact hk)
  rwa [← Nat.add_assoc] at this
theorem AtC.tail {cd : Nat → In} {n : Nat} {a : In} {b : List In} (h : AtC cd n (a :: b)) : AtC cd (n + 1) b := fun k i hk => by
  have := h (k + 1) i (by simpa using hk)
  rwa [show n + (k + 1) = n + 1 + k by omega] at this

/-- From bg a way goes on at next by A, and there is no other. -/
structure Goes2 (cd : Nat → In) (text : ByteArray) (bg next : Nat) (A : Rl) : Prop where
  comp : ∀ {i tk x j tk' x'}, A i tk x j tk' x' → ∃ k, Pth cd text k i ⟨bg, tk, x⟩ j ⟨next, tk', x'⟩
  sound : ∀ {k i tk x e f}, Pth cd text k i ⟨bg, tk, x⟩ e f → (cd f.pc).kind = 6 → ∃ k' j tk' x', k' ≤ k ∧ A i tk x j tk' x' ∧ Pth cd text k' j ⟨next, tk', x'⟩ e f

section
variable {cd : Nat → In} {text : ByteArray} {b c next : Nat} {A B : Rl}
theorem Goes2.id : Goes2 cd text next next mId :=
  ⟨fun ⟨h1, h2, h3⟩ => ⟨0, by rw [h1, h2, h3]; exact .nil⟩, fun {k i tk x e f} p _ => ⟨k, i, tk, x, Nat.le_refl _, ⟨rfl, rfl, rfl⟩, p⟩⟩
theorem Goes2.or {n : Nat} (hc : cd n = noIn 4 b c 0 0) (h : Goes2 cd text b next A) (h2 : Goes2 cd text c next B) : Goes2 cd text n next (mOr A B) := by
  have s1 : ∀ i tk x, Pth cd text 1 i ⟨n, tk, x⟩ i ⟨b, tk, x⟩ := fun i tk x => step_eps (by unfold eps epsC noteE; simp [hc])
  have s2 : ∀ i tk x, Pth cd text 1 i ⟨n, tk, x⟩ i ⟨c, tk, x⟩ := fun i tk x => step_eps (by unfold eps epsC noteE; simp [hc])
  refine ⟨fun a => ?_, fun p h6 => ?_⟩
  · rcases a with a | a
    · obtain ⟨k, p⟩ := h.comp a
      exact (s1 _ _ _).trans p
    · obtain ⟨k, p⟩ := h2.comp a
      exact (s2 _ _ _).trans p
  · obtain ⟨k', e1, q | q⟩ := first_split hc p h6
    · obtain ⟨k1, j1, t1, x1, l1, a1, p1⟩ := h.sound q h6
      exact ⟨k1, j1, t1, x1, by omega, .inl a1, p1⟩
    · obtain ⟨k1, j1, t1, x1, l1, a1, p1⟩ := h2.sound q h6
      exact ⟨k1, j1, t1, x1, by omega, .inr a1, p1⟩
theorem Goes2.imp {A' : Rl} (h : Goes2 cd text b next A) (hA : ∀ i tk x j tk' x', A i tk x j tk' x' ↔ A' i tk x j tk' x') : Goes2 cd text b next A' :=
  ⟨fun a => h.comp ((hA _ _ _ _ _ _).2 a), fun p h6 => by
    obtain ⟨k1, j1, t1, x1, l1, a1, p1⟩ := h.sound p h6
    exact ⟨k1, j1, t1, x1, l1, (hA _ _ _ _ _ _).1 a1, p1⟩⟩
end

section
variable {text : ByteArray}

end
end Go.Proofs.YtonnimbcekhbgaaGreatDoor

/- What the instructions of rows, branches and repeats do. Pure. -/
namespace Go.Proofs.YtonnimbcekhbgaaGreatDoor
open Go.RowKit

section
variable {text : ByteArray}

section
variable {len dd : Nat} {em : Em} {M : Nat → Rl}
end
end
end Go.Proofs.YtonnimbcekhbgaaGreatDoor

/- A pattern that is read as a node: Match says what the node does. -/
namespace Go.Proofs.YtonnimbcekhbgaaGreatDoor
open Go.RowKit

/-- What is known of a node, but its value. -/
structure Pi where
  sz : Nat
  len : Nat
  dd : Nat
  em : Em
def It.Is (i : It) (p : Pi) : Prop := i.sz = p.sz ∧ i.len = p.len ∧ i.dd = p.dd ∧ i.em = p.em

end Go.Proofs.YtonnimbcekhbgaaGreatDoor

/- SA. -/
namespace Go.Proofs.YtonnimbcekhbgaaGreatDoor
open Go.RowKit

end Go.Proofs.YtonnimbcekhbgaaGreatDoor

/- Reading nodes: bytes, groups, repeats, rows, branches: contracts for what can be read. -/
namespace Go.Proofs.YtonnimbcekhbgaaGreatDoor
open Go.RowKit

def Pi.it (p : Pi) : It := ⟨0, .bool false, p.sz, p.len, p.dd, p.em⟩
theorem Nd.kept {lo hi b : Nat} {w w' : World} {i : It} (h : Nd lo hi w i) (hb : b < lo) (hh : hi ≤ w.heap.size) (k : Kp [b] w w') : Nd lo hi w' i :=
  h.keep fun q h1 h2 => k.block q (Nat.lt_of_lt_of_le h2 hh) (by simp; omega)

end Go.Proofs.YtonnimbcekhbgaaGreatDoor

/- Reading nodes: branches, groups, the whole pattern. -/
namespace Go.Proofs.YtonnimbcekhbgaaGreatDoor
open Go.RowKit

theorem Rd.group {w : World} {b : Nat} {src : ByteArray} {k g : Nat} (h : Rd w b src k g) (g1 : Nat) : Rd (w.setCell ⟨b, 3, none⟩ (.int .i64 (g1 : Int))) b src k g1 := by
  refine ⟨by simpa [World.setCell] using h.lt, h.le, h.small, ?_, ?_, ?_, ?_, fun i => by simpa using h.free i⟩
  · rw [cell_other _ (by simp)]; exact h.c0
  · rw [cell_other _ (by simp)]; exact h.c1
  · rw [cell_other _ (by simp)]; exact h.ce
  · rw [cell_same _ h.c2]

end Go.Proofs.YtonnimbcekhbgaaGreatDoor

/- TA. -/
namespace Go.Proofs.YtonnimbcekhbgaaGreatDoor
open Go.RowKit

section
variable {text : ByteArray} {A B C : Rl} {i tk j tk' : Nat} {x x' : Nat → Int}

end
end Go.Proofs.YtonnimbcekhbgaaGreatDoor

/- Reading, by what is left of the pattern's bytes. -/
namespace Go.Proofs.YtonnimbcekhbgaaGreatDoor
open Go.RowKit

/-- At place k of l the bytes s are left. -/
def Sf (l : List UInt8) (k : Nat) (s : List UInt8) : Prop := l.drop k = s ∧ k + s.length = l.length
def isH (s : List UInt8) (x : Nat) : Bool := match s with
  | c :: _ => c.toNat == x
  | [] => false

section
variable {l s s' : List UInt8} {k k' g g' : Nat} {c : UInt8}
theorem Sf.tail (h : Sf l k (c :: s)) : Sf l (k + 1) s := ⟨by rw [← List.drop_drop, h.1]; rfl, by have := h.2; simp at this; omega⟩
theorem Sf.saw (h : Sf l k s) (x : Nat) : saw ⟨l.toArray⟩ k (x : Int) = isH s x := by
  have := getElem?_of_drop (j := 0) h.1
  rw [Nat.add_zero] at this
  rw [saw_list, this]
  cases s with
  | nil => rfl
  | cons c s =>
    show ((c.toNat : Int) == (x : Int)) = (c.toNat == x)
    rw [Bool.eq_iff_iff, beq_iff_eq, beq_iff_eq]
    omega
theorem Sf.size (_ : Sf l k s) : (ByteArray.mk l.toArray).size = l.length := by show l.toArray.size = l.length; simp
theorem Sf.lt (h : Sf l k (c :: s)) : k < (ByteArray.mk l.toArray).size := by rw [h.size]; have := h.2; simp at this; omega
theorem Sf.at (h : Sf l k (c :: s)) : (ByteArray.mk l.toArray)[k]'h.lt = c := (at_is (j := 0) h.1 rfl).2
theorem Sf.le (h : Sf l k s) (h' : Sf l k' s') (hl : s'.length ≤ s.length) : k ≤ k' := by have := h.2; have := h'.2; omega
theorem Sf.all (l : List UInt8) : Sf l 0 l := ⟨rfl, by simp⟩
theorem Sf.end (h : Sf l k []) : k = (ByteArray.mk l.toArray).size := by rw [h.size]; have := h.2; simpa using this
end
end Go.Proofs.YtonnimbcekhbgaaGreatDoor

/- KW. -/
namespace Go.Proofs.YtonnimbcekhbgaaGreatDoor
open Go.RowKit

section
variable {w0 w : World} {ls : List (List UInt8)} {src : ByteArray} {Q : Nat → World → Prop} {txt : ByteArray} {e e0 e1 G m : Nat} {L : List UInt8} {H : List (Nat × Nat)} {g : Bool}

end

/-- A word of the law. -/
structure Wd (x : List UInt8) : Prop where
  lo : 1 ≤ x.length
  hi : x.length ≤ 3
  ok : ∀ u ∈ x, u = 97 ∨ u = 98 ∨ u = 99
section
variable {w : World} {ls : List (List UInt8)} {x : List UInt8}
abbrev qx (x : List UInt8) : List UInt8 → Nat → Bool := fun sp a => standsB (ba sp) (ba x) a
theorem qx_le {sp : List UInt8} {a : Nat} (h : qx x sp a = true) : a + x.length ≤ sp.length := by
  have := ((stands_iff _ _ _).1 h).1
  rwa [ba_size, ba_size] at this
/-- What stands there. -/
theorem qx_at {sp : List UInt8} {a : Nat} (h : qx x sp a = true) : (sp.take (a + x.length)).drop a = x := by
  have h0 : standsB (ba sp) (ba x) a = true := h
  unfold standsB at h0
  rw [Bool.and_eq_true, decide_eq_true_eq, toList_data, toList_data, beq_iff_eq, ByteArray.data_extract, ba_size] at h0
  have h2 := h0.2
  rw [Array.toList_extract, show (ba x).data.toList = x from ba_list x, show (ba sp).data.toList = sp from ba_list sp] at h2
  rw [List.drop_take, show a + x.length - a = x.length by omega]
  rw [List.extract_eq_take_drop, show a + x.length - a = x.length by omega] at h2
  exact h2

theorem rowQ_2 (x : List UInt8) (pb : Nat) (w : World) (h : rowQ x pb w) : w.cell? ⟨pb, 2, none⟩ = some (.int .i64 ((0 : Nat) : Int)) := h.c2
abbrev px (x sp : List UInt8) : List Nat := plcs (qx x) x.length sp
theorem px_q {sp : List UInt8} {i a : Nat} (h : (px x sp)[i]? = some a) : qx x sp a = true := plcs_q (List.mem_of_getElem? h)
end
end Go.Proofs.YtonnimbcekhbgaaGreatDoor
