/- A byte as often as may be, once at least: its instructions. -/
import Derived.Test.YtbakfojamdocgaaDoorBA
namespace Go.Proofs.YtbakfojamdocgaaDoor
open Go.RowKit

theorem Ls.stored {w : World} {L n g c : Nat} {xs : List Value} {d dp : Nat} (h : Ls w L n xs d dp) (hv : w.cell? ⟨L, 0, none⟩ = some (.slice (some ⟨g, 0, none⟩) n c)) (j : Nat) (u : Value) :
    Ls (w.setCell ⟨g, j, none⟩ u) L n (xs.set j u) d dp ∧ Below L w (w.setCell ⟨g, j, none⟩ u) ∧ Spares L w (w.setCell ⟨g, j, none⟩ u) := by
  obtain ⟨v, h1, h2, h3⟩ := h.code
  have e : v = .slice (some ⟨g, 0, none⟩) n c := Option.some.inj (h1.symm.trans hv)
  subst e
  have hg := (h2.lt g (by simp [Value.ownBlock])).1
  have cf : ∀ i, (w.setCell ⟨g, j, none⟩ u).cell? ⟨L, i, none⟩ = w.cell? ⟨L, i, none⟩ := fun i => cell_other _ (fun e => by injection e with e1 _ _; omega)
  refine ⟨⟨by simpa [World.setCell] using h.lt, ⟨_, (cf 0).trans h1, (h2.stored j u).1, h3⟩, (cf 1).trans h.c1, (cf 2).trans h.c2, fun i => by simpa using h.free i⟩, below_set _ (by omega), fun T s => ?_⟩
  have hne : T ≠ g := fun e => s.2.2 _ h1 (by simp [Value.ownBlock, e])
  refine ⟨⟨by simpa [World.setCell] using s.1, s.2.1, fun v' hv' => s.2.2 v' ?_⟩, Below.heap_setCell _ _ _ _ hne⟩
  rwa [cf 0] at hv'

set_option maxRecDepth 100000 in
set_option maxHeartbeats 2000000 in
theorem turns_emit {L : Nat} {w : World} (h : Ls w L 1 (ins0 6 0 0 0 0) 0 0) (m : Nat → Bool) :
    Calls Tryd.prog 79 #[repA m, .pointer (some ⟨L, 0, none⟩), .int .i64 0] w fun e w' => e = .returned (.int .i64 1) ∧ Ls w' L 4 (ins0 6 0 0 0 0 ++ ins0 4 3 0 0 0 ++ ins0 5 1 0 0 0 ++ ins 0 2 0 0 1 m) 0 1 ∧ Below L w w' ∧ Spares L w w' := by
  have hm := emit_of_one
  have hl := h.lt
  have k0 := Kp.alloc [] w (.cells #[oneV m, .int .i64 1, .int .i64 (-1)] 91)
  have b0 : Below L w (w.alloc (.cells #[oneV m, .int .i64 1, .int .i64 (-1)] 91)) := (Below.refl L w).alloc (by omega) _
  have h0 := h.keep k0
  have s0 := Spares.keep hl k0
  have t0 : SafeT L w.heap.size (w.alloc (.cells #[oneV m, .int .i64 1, .int .i64 (-1)] 91)) := by
    refine ⟨by simp, by omega, fun v hv q => ?_⟩
    obtain ⟨v', h1, h2, _⟩ := h.code
    have e : v = v' := Option.some.inj (hv.symm.trans ((k0.cell (p := ⟨L, 0, none⟩) hl (by simp)).trans h1))
    subst e
    have := (h2.lt _ q).2
    omega
  have i0 : (w.alloc (.cells #[oneV m, .int .i64 1, .int .i64 (-1)] 91)).cell? ⟨w.heap.size, 0, none⟩ = some (oneV m) := by simp
  go_enter Tryd.func79, Tryd.ntmps79
  go_wp2_with fail
  refine (listAddS0 h0 (by omega) 4 0 0 0 0).mono ?_
  rintro e w1 ⟨rfl, l1, b1, s1⟩
  have d1 := l1.c1
  have i1 := s1.cell t0 i0
  have t1 := (s1 _ t0).1
  have B1 := b0.trans b1
  have S1 := s0.trans s1
  clear b0 b1 s0 s1 i0 t0 h0
  go_wp2_with fail
  refine (listAddS0 l1 (by omega) 5 1 0 0 0).mono ?_
  rintro e w2 ⟨rfl, l2, b2, s2⟩
  have i2 := s2.cell t1 i1
  have t2 := (s2 _ t1).1
  have B2 := B1.trans b2
  have S2 := S1.trans s2
  have d2 := l2.c1
  have e2 := l2.c2
  have f1 := l2.free 1
  have f2 := l2.free 2
  have hl2 := l2.lt
  clear B1 b2 S1 s2 i1 t1 l1 d1
  -- the depth
  have l3 := l2.depth 1
  have s3 : Spares L w2 (w2.setCell ⟨L, 1, none⟩ (.int .i64 ((1 : Nat) : Int))) := Spares.set (by omega) _
  have b3 : Below L w2 (w2.setCell ⟨L, 1, none⟩ (.int .i64 ((1 : Nat) : Int))) := below_set _ (Nat.le_refl _)
  have H2 := hid (And.intro l3 (And.intro s3 (And.intro b3 (And.intro i2 t2))))
  clear l3 s3 b3 i2 t2
  go_wp2_with fail
  have c1 : (w2.setCell ⟨L, 1, none⟩ (.int .i64 1)).cell? ⟨L, 1, none⟩ = some (.int .i64 1) := cell_same _ d2
  have c2 : (w2.setCell ⟨L, 1, none⟩ (.int .i64 1)).cell? ⟨L, 2, none⟩ = some (.int .i64 0) := (cell_other _ (by simp)).trans e2
  have f3 : (w2.setCell ⟨L, 1, none⟩ (.int .i64 1)).frozen? ⟨L, 2, none⟩ = false := by simpa using f2
  have ne : w.heap.size ≠ L := by omega
  have i4 : ((w2.setCell ⟨L, 1, none⟩ (.int .i64 1)).setCell ⟨L, 2, none⟩ (.int .i64 1)).drew.cell? ⟨w.heap.size, 0, none⟩ = some (oneV m) := by
    obtain ⟨_, _, _, i2, _⟩ := H2.out
    refine ((Kp.drew [] _).cell (p := ⟨w.heap.size, 0, none⟩) ?_ (by simp)).trans ?_
    · have := H2.out.2.2.2.2.1; simpa [World.setCell] using this
    · exact (cell_other _ (fun e => by injection e with e1 _ _; exact ne e1.symm)).trans ((cell_other _ (fun e => by injection e with e1 _ _; exact ne e1.symm)).trans i2)
  have H4 : Hid (Ls ((w2.setCell ⟨L, 1, none⟩ (.int .i64 1)).setCell ⟨L, 2, none⟩ (.int .i64 1)).drew L 3 (ins0 6 0 0 0 0 ++ ins0 4 0 0 0 0 ++ ins0 5 1 0 0 0) 1 1 ∧ Below L w ((w2.setCell ⟨L, 1, none⟩ (.int .i64 1)).setCell ⟨L, 2, none⟩ (.int .i64 1)).drew ∧ Spares L w ((w2.setCell ⟨L, 1, none⟩ (.int .i64 1)).setCell ⟨L, 2, none⟩ (.int .i64 1)).drew) := by
    obtain ⟨l3, s3, b3, _, _⟩ := H2.out
    have l4 := l3.deep 1
    have hl3 := l4.lt
    exact hid ⟨l4.keep (Kp.drew _ _), (B2.trans b3).trans ((below_set _ (Nat.le_refl _)).trans ((Below.refl _ _).drew)), (S2.trans s3).trans ((Spares.set (by omega) _).trans (Spares.keep hl3 (Kp.drew _ _)))⟩
  clear H2 B2 S2 d2 e2 f1 l2
  go_region
  all_goals go_wp2_with fail
  refine (one_emitS H4.out.1 (by omega) 2 m).mono ?_
  rintro e w5 ⟨rfl, l5, b5, s5⟩
  have d5 := l5.c1
  have f5 := l5.free 1
  have l6 := l5.depth 0
  have B6 := H4.out.2.1.trans (b5.trans (below_set (i := 1) (.int .i64 ((0 : Nat) : Int)) (Nat.le_refl L)))
  have S6 := H4.out.2.2.trans (s5.trans (Spares.set (i := 1) (by omega) (.int .i64 ((0 : Nat) : Int))))
  obtain ⟨v, hv, hown, hor⟩ := l6.code
  obtain ⟨g, c, rfl⟩ : ∃ g c, v = .slice (some ⟨g, 0, none⟩) 4 c := by
    rcases hown.2 with ⟨_, e⟩ | ⟨g, c, _, e, _⟩
    · omega
    · exact ⟨g, c, e⟩
  have fz := hown.frozenAt 10
  have cz := hown.cellAt 10 (by omega)
  have cz : (w5.setCell ⟨L, 1, none⟩ (.int .i64 0)).cell? ⟨g, 10, none⟩ = some (.int .i64 0) := cz
  have fz : (w5.setCell ⟨L, 1, none⟩ (.int .i64 0)).frozen? ⟨g, 10, none⟩ = false := fz
  have hv' : (w5.setCell ⟨L, 1, none⟩ (.int .i64 0)).cell? ⟨L, 0, none⟩ = some (.slice (some ⟨g, 0, none⟩) 4 c) := hv
  have L7 := l6.stored hv 10 (.int .i64 3)
  have H6 := hid (And.intro L7 (And.intro B6 S6))
  have HH := hid hown
  clear hown hor L7
  clear l6 B6 S6 b5 s5 i4 c1 c2 f3 H4
  go_wp2_with fail
  go_ret
  obtain ⟨⟨a1, a2, a3⟩, a4, a5⟩ := H6.out
  exact ⟨rfl, a1, a4.trans a2, a5.trans a3⟩
end Go.Proofs.YtbakfojamdocgaaDoor
