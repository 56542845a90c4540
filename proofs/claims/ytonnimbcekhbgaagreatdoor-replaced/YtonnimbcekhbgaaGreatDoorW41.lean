/- What the claim needs of: BA. -/
import Derived.Test.YtonnimbcekhbgaaGreatDoorW31
import Derived.Laws.OwnMore

/- BA. -/
namespace Go.Proofs.YtonnimbcekhbgaaGreatDoor
open Go.RowKit

/-- A block that is none of the list's. -/
def SafeT (L T : Nat) (w : World) : Prop := T < w.heap.size ∧ T ≠ L ∧ ∀ v, w.cell? ⟨L, 0, none⟩ = some v → v.ownBlock ≠ some T
/-- What is none of the list's stays. -/
def Spares (L : Nat) (w w' : World) : Prop := ∀ T, SafeT L T w → SafeT L T w' ∧ w'.heap[T]? = w.heap[T]?
theorem Spares.trans {L : Nat} {a b c : World} (h : Spares L a b) (k : Spares L b c) : Spares L a c := fun T s => by
  obtain ⟨h1, h2⟩ := h T s
  obtain ⟨k1, k2⟩ := k T h1
  exact ⟨k1, k2.trans h2⟩
theorem Spares.keep {L : Nat} {w w' : World} (hl : L < w.heap.size) (k : Kp [] w w') : Spares L w w' := fun T s => by
  refine ⟨⟨Nat.lt_of_lt_of_le s.1 k.size, s.2.1, fun v hv => s.2.2 v ?_⟩, k.block T s.1 (by simp)⟩
  rw [← hv]; exact (k.cell (p := ⟨L, 0, none⟩) hl (by simp)).symm
theorem Spares.set {L i : Nat} {w : World} (hi : i ≠ 0) (u : Value) : Spares L w (w.setCell ⟨L, i, none⟩ u) := fun T s => by
  refine ⟨⟨by simpa [World.setCell] using s.1, s.2.1, fun v hv => s.2.2 v ?_⟩, Below.heap_setCell _ _ _ _ s.2.1⟩
  rwa [cell_other _ (fun e => by injection e with _ e2 _; exact hi e2)] at hv
theorem Spares.cell {L T i : Nat} {w w' : World} {v : Value} (h : Spares L w w') (s : SafeT L T w) (hv : w.cell? ⟨T, i, none⟩ = some v) : w'.cell? ⟨T, i, none⟩ = some v :=
  (World.cell?_of_block (w := w) (h T s).2).trans hv

theorem spares_add {L n' g c : Nat} {v : Value} {w W w' : World} (hv : w.cell? ⟨L, 0, none⟩ = some v) (kW : Kp [] w W) (hg : W.grownBy w' v.ownBlock) (hor : v.ownBlock = some g ∨ W.heap.size ≤ g) (hc : w'.cell? ⟨L, 0, none⟩ = some v) :
    Spares L w (w'.setCell ⟨L, 0, none⟩ (.slice (some ⟨g, 0, none⟩) n' c)) := fun T s => by
  have hne := s.2.2 v hv
  have hTW : T < W.heap.size := Nat.lt_of_lt_of_le s.1 kW.size
  have hz : w'.heap.size ≤ (w'.setCell ⟨L, 0, none⟩ (.slice (some ⟨g, 0, none⟩) n' c)).heap.size := by simp [World.setCell]
  refine ⟨⟨Nat.lt_of_lt_of_le hTW (Nat.le_trans hg.size hz), s.2.1, fun u hu => ?_⟩, ?_⟩
  · rw [cell_same _ hc] at hu
    have e := (Option.some.inj hu).symm
    subst e
    intro q
    have e : g = T := by simpa [Value.ownBlock] using q
    rcases hor with r | r
    · exact hne (e ▸ r)
    · omega
  · exact (Below.heap_setCell _ _ _ _ s.2.1).trans ((hg.block T hTW (fun e => hne e.symm)).trans (kW.block T s.1 (by simp)))

theorem Ls.depth {w : World} {L n : Nat} {xs : List Value} {d dp : Nat} (h : Ls w L n xs d dp) (q : Nat) : Ls (w.setCell ⟨L, 1, none⟩ (.int .i64 (q : Int))) L n xs q dp := by
  obtain ⟨v, h1, h2, h3⟩ := h.code
  have cf : ∀ i, i ≠ 1 → (w.setCell ⟨L, 1, none⟩ (.int .i64 (q : Int))).cell? ⟨L, i, none⟩ = w.cell? ⟨L, i, none⟩ := fun i hi => cell_other _ (fun e => by injection e with _ e2 _; exact hi e2.symm)
  exact ⟨by simpa [World.setCell] using h.lt, ⟨v, (cf 0 (by omega)).trans h1, owns_of_block h2 (fun k hk _ => Below.heap_setCell _ _ _ _ (by have := (h2.lt k hk).1; show k ≠ L; omega)), h3⟩, cell_same _ h.c1, (cf 2 (by omega)).trans h.c2, fun i => by simpa using h.free i⟩
theorem Ls.deep {w : World} {L n : Nat} {xs : List Value} {d dp : Nat} (h : Ls w L n xs d dp) (q : Nat) : Ls (w.setCell ⟨L, 2, none⟩ (.int .i64 (q : Int))) L n xs d q := by
  obtain ⟨v, h1, h2, h3⟩ := h.code
  have cf : ∀ i, i ≠ 2 → (w.setCell ⟨L, 2, none⟩ (.int .i64 (q : Int))).cell? ⟨L, i, none⟩ = w.cell? ⟨L, i, none⟩ := fun i hi => cell_other _ (fun e => by injection e with _ e2 _; exact hi e2.symm)
  exact ⟨by simpa [World.setCell] using h.lt, ⟨v, (cf 0 (by omega)).trans h1, owns_of_block h2 (fun k hk _ => Below.heap_setCell _ _ _ _ (by have := (h2.lt k hk).1; show k ≠ L; omega)), h3⟩, (cf 1 (by omega)).trans h.c1, cell_same _ h.c2, fun i => by simpa using h.free i⟩
theorem below_set {w : World} {L i : Nat} (v : Value) {b : Nat} (hb : L ≤ b) : Below L w (w.setCell ⟨b, i, none⟩ v) :=
  ⟨rfl, rfl, rfl, by simp [World.setCell], fun k hk => Below.heap_setCell _ _ _ _ (by show k ≠ b; omega)⟩

set_option maxRecDepth 100000 in
set_option maxHeartbeats 1600000 in
theorem add_leaves' {L n : Nat} {xs : List Value} {v : Value} {w : World} (hv : w.cell? ⟨L, 0, none⟩ = some v) (hown : w.ownsRow (L + 1) 185 9 v n xs) (hn : n ≤ 100000) (hl : L < w.heap.size) (hf : w.frozen? ⟨L, 0, none⟩ = false) (kind next other slot depth : Int) (m : Nat → Bool) :
    Calls Tryz.prog 144 #[.pointer (some ⟨L, 0, none⟩), .agg (ins kind next other slot depth m).toArray] w fun e w' => e = .returned (.int .i64 n) ∧
      AddedP L (n + 1) (xs ++ ins kind next other slot depth m) w w' ∧ Spares L w w' := by
  obtain ⟨i0, hi, hz0, hz1, hz2⟩ := info_parts Tryz.infoIns
  have HO := hid hown
  have HV := hid hv
  have HF := hid hf
  have HL := hid hl
  clear hown
  have hins := ins_one kind next other slot depth m
  have HI := hid hins
  clear hins
  unfold ins at *
  go_enter Tryz.func144, Tryz.ntmps144
  go_wp2
  go_region_law (refine step_append2 rfl (.tmp 9) (.tmp 11) 153 rfl (L + 1) 185 i0 _ 9 72 Tryz.underlying153 hi hz0 hz1 hz2 rfl (by decide) v n xs (by simp [Act.eval]) (((HO.out.alloc _).alloc _).drew) ⟨w.heap.size + 1, 0, none⟩ 1 1 _ (by simp [Act.eval]) rfl (by exact news_cells (w.alloc _) _ _ _ (by simp)) HI.out (by unfold maxLen; omega) (by omega) (by simp; omega) (by decide) ?_; intro g c w' hown' hgrow hor; have c0' := ((grown_cell ((HO.out.alloc _).alloc _).drew hgrow (p := ⟨L, 0, none⟩) (Nat.lt_succ_self _) (by simp; omega)).trans (((Kp.alloc [] _ _).trans ((Kp.alloc _ _ _).trans (Kp.drew _ _))).cell HL.out (by simp))).trans HV.out; have f0' := ((grown_free ((HO.out.alloc _).alloc _).drew hgrow (p := ⟨L, 0, none⟩) (Nat.lt_succ_self _) (by simp; omega)).trans (((Kp.alloc [] _ _).trans ((Kp.alloc _ _ _).trans (Kp.drew _ _))).frozen HL.out (by simp))).trans HF.out; have HO' := hid hown'; have HG := hid hgrow; have HR := hid hor; clear hown' hgrow hor)
  all_goals go_wp2
  all_goals go_ret
  all_goals exact ⟨rfl, added_of HL.out HV.out ((Kp.alloc _ _ _).trans ((Kp.alloc _ _ _).trans (Kp.drew _ _))) ((HO.out.alloc _).alloc _).drew HG.out HO'.out, spares_add HV.out ((Kp.alloc _ _ _).trans ((Kp.alloc _ _ _).trans (Kp.drew _ _))) HG.out HR.out c0'⟩


theorem listAddS {L n : Nat} {xs : List Value} {d dp : Nat} {w : World} (h : Ls w L n xs d dp) (hn : n ≤ 100000) (kind next other slot depth : Int) (m : Nat → Bool) :
    Calls Tryz.prog 144 #[.pointer (some ⟨L, 0, none⟩), .agg (ins kind next other slot depth m).toArray] w fun e w' => e = .returned (.int .i64 n) ∧ Ls w' L (n + 1) (xs ++ ins kind next other slot depth m) d dp ∧ Below L w w' ∧ Spares L w w' := by
  obtain ⟨v, h1, h2, _⟩ := h.code
  exact (add_leaves' h1 h2 hn h.lt (h.free 0) kind next other slot depth m).mono fun e w' ⟨he, ha, hs⟩ => ⟨he, h.added ha, ha.below, hs⟩
set_option maxRecDepth 100000 in
set_option maxHeartbeats 800000 in
theorem one_emitS {L n : Nat} {xs : List Value} {d dp : Nat} {w : World} (h : Ls w L n xs d dp) (hn : n ≤ 100000) (next : Int) (m : Nat → Bool) :
    Calls Tryz.prog 213 #[setV m, .pointer (some ⟨L, 0, none⟩), .int .i64 next] w fun e w' => e = .returned (.int .i64 n) ∧ Ls w' L (n + 1) (xs ++ ins 0 next 0 0 d m) d dp ∧ Below L w w' ∧ Spares L w w' := by
  have c1 := h.c1
  have hl := h.lt
  go_enter Tryz.func213, Tryz.ntmps213
  go_wp2
  go_region_with (go_at_call 144; refine (listAddS (h.keep (by exact (Kp.alloc _ _ _).trans (Kp.drew _ _))) hn 0 next 0 0 d m).mono ?_; rintro e w1 ⟨rfl, h1, b1, s1⟩)
  all_goals go_wp2
  all_goals go_ret
  all_goals exact ⟨rfl, h1, (((Below.refl L w).alloc (by omega) _).drew).trans b1, (Spares.keep hl ((Kp.alloc _ _ _).trans (Kp.drew _ _))).trans s1⟩
end Go.Proofs.YtonnimbcekhbgaaGreatDoor

/- A byte as often as may be, once at least: its instructions. -/
namespace Go.Proofs.YtonnimbcekhbgaaGreatDoor
open Go.RowKit

theorem Ls.stored {w : World} {L n g c : Nat} {xs : List Value} {d dp : Nat} (h : Ls w L n xs d dp) (hv : w.cell? ⟨L, 0, none⟩ = some (.slice (some ⟨g, 0, none⟩) n c)) (j : Nat) (u : Value) :
    Ls (w.setCell ⟨g, j, none⟩ u) L n (xs.set j u) d dp ∧ Below L w (w.setCell ⟨g, j, none⟩ u) ∧ Spares L w (w.setCell ⟨g, j, none⟩ u) := by
  obtain ⟨v, h1, h2, h3⟩ := h.code
  have e : v = .slice (some ⟨g, 0, none⟩) n c := Option.some.inj (h1.symm.trans hv)
  subst e
  have hg := (h2.lt g (by simp [Value.ownBlock])).1
  have cf : ∀ i, (w.setCell ⟨g, j, none⟩ u).cell? ⟨L, i, none⟩ = w.cell? ⟨L, i, none⟩ := fun i => cell_other _ (fun e => by injection e with e1 _ _; omega)
  refine ⟨⟨by simpa [World.setCell] using h.lt, ⟨_, (cf 0).trans h1, (h2.stored j u).1, h3⟩, (cf 1).trans h.c1, (cf 2).trans h.c2, fun i => by simpa using h.free i⟩, below_set _ (by omega), fun T s => ?_⟩
  have hne : T ≠ g := fun e => s.2.2 _ h1 (by simp [Value.ownBlock, e])
  refine ⟨⟨by simpa [World.setCell] using s.1, s.2.1, fun v' hv' => s.2.2 v' ?_⟩, Below.heap_setCell _ _ _ _ hne⟩
  rwa [cf 0] at hv'

end Go.Proofs.YtonnimbcekhbgaaGreatDoor

/- What the machine does is one thing: worked out; 'b+' in 'abbc'. -/
namespace Go.Proofs.YtonnimbcekhbgaaGreatDoor
open Go.RowKit

section
variable {cd : Nat → In} {n D : Nat} {text : ByteArray}

end

end Go.Proofs.YtonnimbcekhbgaaGreatDoor
