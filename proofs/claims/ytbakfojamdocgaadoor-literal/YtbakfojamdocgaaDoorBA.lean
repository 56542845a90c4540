/- A byte as often as may be, once at least: it is read, and its instructions. -/
import Derived.Test.YtbakfojamdocgaaDoorRE
import Derived.Laws.OwnMore
import Derived.Test.YtbakfojamdocgaaDoorK
namespace Go.Proofs.YtbakfojamdocgaaDoor
open Go.RowKit

abbrev repA (m : Nat → Bool) : Value := .agg #[oneV m, .int .i64 1, .int .i64 (-1)]
abbrev repV (m : Nat → Bool) : Value := .iface 91 (repA m)

theorem size_of_repeat (v : Value) (w : World) : (method 228 91 v "ribbon/pattern.size").run Tryd.prog w = .ok (78, v) w := by kernel_rfl
theorem emit_of_repeat (v : Value) (w : World) : (method 228 91 v "ribbon/pattern.emit").run Tryd.prog w = .ok (77, v) w := by kernel_rfl

set_option maxHeartbeats 400000 in
theorem repeated_plus {b : Nat} {src : ByteArray} {k g : Nat} (m : Nat → Bool) {w : World} (hr : Rd w b src k g) (h1 : saw src k 42 = false) (h2 : saw src k 43 = true) :
    Calls Tryd.prog 34 #[.pointer (some ⟨b, 0, none⟩), oneV m] w fun e w' => e = .returned (repV m) ∧ Rd w' b src (k + 1) g ∧ Kp [b] w w' := by
  go_enter Tryd.func34, Tryd.ntmps34
  go_wp2_with fail
  refine (take_no 42 hr h1).mono ?_
  rintro e w1 ⟨rfl, r1, k1⟩
  go_wp2_with fail
  refine (take_yes 43 r1 h2).mono ?_
  rintro e w2 ⟨rfl, r2, k2⟩
  go_wp2_with fail
  go_ret
  exact ⟨rfl, r2, k1.trans k2⟩

theorem piece_plus {b : Nat} {src : ByteArray} {k l g x : Nat} (hx : x < 256) (h94 : saw src k 94 = false) (h36 : saw src k 36 = false) (h40 : saw src k 40 = false) (h46 : saw src k 46 = false) (h91 : saw src k 91 = false) (hb : ByteOk b src special escaped k l g x)
    (h1 : saw src l 42 = false) (h2 : saw src l 43 = true) : PieceOk b src k (l + 1) g (repV (span noBytes x (x + 1))) := by
  intro w hr _
  go_enter Tryd.func33, Tryd.ntmps33
  go_wp2_with fail
  refine (take_no 94 hr h94).mono ?_
  rintro e w1 ⟨rfl, r1, k1⟩
  go_wp2_with fail
  refine (take_no 36 r1 h36).mono ?_
  rintro e w2 ⟨rfl, r2, k2⟩
  go_wp2_with fail
  refine (atom_byte r2 hx h40 h46 h91 hb).mono ?_
  rintro e w3 ⟨rfl, r3, k3⟩
  go_wp2_with fail
  refine (repeated_plus _ r3 h1 h2).mono ?_
  rintro e w4 ⟨rfl, r4, k4⟩
  go_wp2_with fail
  go_ret
  exact ⟨rfl, r4, k1.trans (k2.trans (k3.trans k4))⟩

set_option maxRecDepth 100000 in
set_option maxHeartbeats 800000 in
theorem rep_size (m : Nat → Bool) (w : World) : Calls Tryd.prog 78 #[repA m] w fun e w' => e = .returned (.int .i64 3) ∧ Kp [] w w' := by
  have hm := size_of_one
  go_enter Tryd.func78, Tryd.ntmps78
  go_wp2_with fail
  refine (one_size m _).mono ?_
  rintro e w1 ⟨rfl, k1⟩
  have c1 : w1.cell? ⟨w.heap.size, 1, none⟩ = some (.int .i64 1) := (k1.cell (p := ⟨w.heap.size, 1, none⟩) (by simp) (by simp)).trans (by simp)
  have c2 : w1.cell? ⟨w.heap.size, 2, none⟩ = some (.int .i64 (-1)) := (k1.cell (p := ⟨w.heap.size, 2, none⟩) (by simp) (by simp)).trans (by simp)
  have K1 : Kp [] w w1 := (Kp.alloc _ _ _).trans k1
  clear k1
  go_wp2_with fail
  go_ret
  exact ⟨rfl, K1⟩

/-- A block that is none of the list's. -/
def SafeT (L T : Nat) (w : World) : Prop := T < w.heap.size ∧ T ≠ L ∧ ∀ v, w.cell? ⟨L, 0, none⟩ = some v → v.ownBlock ≠ some T
/-- What is none of the list's stays. -/
def Spares (L : Nat) (w w' : World) : Prop := ∀ T, SafeT L T w → SafeT L T w' ∧ w'.heap[T]? = w.heap[T]?
theorem Spares.trans {L : Nat} {a b c : World} (h : Spares L a b) (k : Spares L b c) : Spares L a c := fun T s => by
  obtain ⟨h1, h2⟩ := h T s
  obtain ⟨k1, k2⟩ := k T h1
  exact ⟨k1, k2.trans h2⟩
theorem Spares.keep {L : Nat} {w w' : World} (hl : L < w.heap.size) (k : Kp [] w w') : Spares L w w' := fun T s => by
  refine ⟨⟨Nat.lt_of_lt_of_le s.1 k.size, s.2.1, fun v hv => s.2.2 v ?_⟩, k.block T s.1 (by simp)⟩
  rw [← hv]; exact (k.cell (p := ⟨L, 0, none⟩) hl (by simp)).symm
theorem Spares.set {L i : Nat} {w : World} (hi : i ≠ 0) (u : Value) : Spares L w (w.setCell ⟨L, i, none⟩ u) := fun T s => by
  refine ⟨⟨by simpa [World.setCell] using s.1, s.2.1, fun v hv => s.2.2 v ?_⟩, Below.heap_setCell _ _ _ _ s.2.1⟩
  rwa [cell_other _ (fun e => by injection e with _ e2 _; exact hi e2)] at hv
theorem Spares.cell {L T i : Nat} {w w' : World} {v : Value} (h : Spares L w w') (s : SafeT L T w) (hv : w.cell? ⟨T, i, none⟩ = some v) : w'.cell? ⟨T, i, none⟩ = some v :=
  (World.cell?_of_block (w := w) (h T s).2).trans hv

theorem spares_add {L n' g c : Nat} {v : Value} {w W w' : World} (hv : w.cell? ⟨L, 0, none⟩ = some v) (kW : Kp [] w W) (hg : W.grownBy w' v.ownBlock) (hor : v.ownBlock = some g ∨ W.heap.size ≤ g) (hc : w'.cell? ⟨L, 0, none⟩ = some v) :
    Spares L w (w'.setCell ⟨L, 0, none⟩ (.slice (some ⟨g, 0, none⟩) n' c)) := fun T s => by
  have hne := s.2.2 v hv
  have hTW : T < W.heap.size := Nat.lt_of_lt_of_le s.1 kW.size
  have hz : w'.heap.size ≤ (w'.setCell ⟨L, 0, none⟩ (.slice (some ⟨g, 0, none⟩) n' c)).heap.size := by simp [World.setCell]
  refine ⟨⟨Nat.lt_of_lt_of_le hTW (Nat.le_trans hg.size hz), s.2.1, fun u hu => ?_⟩, ?_⟩
  · rw [cell_same _ hc] at hu
    have e := (Option.some.inj hu).symm
    subst e
    intro q
    have e : g = T := by simpa [Value.ownBlock] using q
    rcases hor with r | r
    · exact hne (e ▸ r)
    · omega
  · exact (Below.heap_setCell _ _ _ _ s.2.1).trans ((hg.block T hTW (fun e => hne e.symm)).trans (kW.block T s.1 (by simp)))

theorem Ls.depth {w : World} {L n : Nat} {xs : List Value} {d dp : Nat} (h : Ls w L n xs d dp) (q : Nat) : Ls (w.setCell ⟨L, 1, none⟩ (.int .i64 (q : Int))) L n xs q dp := by
  obtain ⟨v, h1, h2, h3⟩ := h.code
  have cf : ∀ i, i ≠ 1 → (w.setCell ⟨L, 1, none⟩ (.int .i64 (q : Int))).cell? ⟨L, i, none⟩ = w.cell? ⟨L, i, none⟩ := fun i hi => cell_other _ (fun e => by injection e with _ e2 _; exact hi e2.symm)
  exact ⟨by simpa [World.setCell] using h.lt, ⟨v, (cf 0 (by omega)).trans h1, owns_of_block h2 (fun k hk _ => Below.heap_setCell _ _ _ _ (by have := (h2.lt k hk).1; show k ≠ L; omega)), h3⟩, cell_same _ h.c1, (cf 2 (by omega)).trans h.c2, fun i => by simpa using h.free i⟩
theorem Ls.deep {w : World} {L n : Nat} {xs : List Value} {d dp : Nat} (h : Ls w L n xs d dp) (q : Nat) : Ls (w.setCell ⟨L, 2, none⟩ (.int .i64 (q : Int))) L n xs d q := by
  obtain ⟨v, h1, h2, h3⟩ := h.code
  have cf : ∀ i, i ≠ 2 → (w.setCell ⟨L, 2, none⟩ (.int .i64 (q : Int))).cell? ⟨L, i, none⟩ = w.cell? ⟨L, i, none⟩ := fun i hi => cell_other _ (fun e => by injection e with _ e2 _; exact hi e2.symm)
  exact ⟨by simpa [World.setCell] using h.lt, ⟨v, (cf 0 (by omega)).trans h1, owns_of_block h2 (fun k hk _ => Below.heap_setCell _ _ _ _ (by have := (h2.lt k hk).1; show k ≠ L; omega)), h3⟩, (cf 1 (by omega)).trans h.c1, cell_same _ h.c2, fun i => by simpa using h.free i⟩
theorem below_set {w : World} {L i : Nat} (v : Value) {b : Nat} (hb : L ≤ b) : Below L w (w.setCell ⟨b, i, none⟩ v) :=
  ⟨rfl, rfl, rfl, by simp [World.setCell], fun k hk => Below.heap_setCell _ _ _ _ (by show k ≠ b; omega)⟩

set_option maxRecDepth 100000 in
set_option maxHeartbeats 1600000 in
theorem add_leaves' {L n : Nat} {xs : List Value} {v : Value} {w : World} (hv : w.cell? ⟨L, 0, none⟩ = some v) (hown : w.ownsRow (L + 1) 74 9 v n xs) (hn : n ≤ 100000) (hl : L < w.heap.size) (hf : w.frozen? ⟨L, 0, none⟩ = false) (kind next other slot depth : Int) (m : Nat → Bool) :
    Calls Tryd.prog 22 #[.pointer (some ⟨L, 0, none⟩), .agg (ins kind next other slot depth m).toArray] w fun e w' => e = .returned (.int .i64 n) ∧
      Added L (n + 1) (xs ++ ins kind next other slot depth m) w w' ∧ Spares L w w' := by
  obtain ⟨i0, hi, hz0, hz1, hz2⟩ := info_parts Tryd.infoIns
  have HO := hid hown
  have HV := hid hv
  have HF := hid hf
  have HL := hid hl
  clear hown
  have hins := ins_one kind next other slot depth m
  have HI := hid hins
  clear hins
  unfold ins at *
  go_enter Tryd.func22, Tryd.ntmps22
  go_wp2
  go_region_law (refine step_append2 rfl (.tmp 9) (.tmp 11) 47 rfl (L + 1) 74 i0 _ 9 72 Tryd.underlying47 hi hz0 hz1 hz2 rfl (by decide) v n xs (by simp [Act.eval]) (((HO.out.alloc _).alloc _).drew) ⟨w.heap.size + 1, 0, none⟩ 1 1 _ (by simp [Act.eval]) rfl (by exact news_cells (w.alloc _) _ _ _ (by simp)) HI.out (by unfold maxLen; omega) (by omega) (by simp; omega) (by decide) ?_; intro g c w' hown' hgrow hor; have c0' := ((grown_cell ((HO.out.alloc _).alloc _).drew hgrow (p := ⟨L, 0, none⟩) (Nat.lt_succ_self _) (by simp; omega)).trans (((Kp.alloc [] _ _).trans ((Kp.alloc _ _ _).trans (Kp.drew _ _))).cell HL.out (by simp))).trans HV.out; have f0' := ((grown_free ((HO.out.alloc _).alloc _).drew hgrow (p := ⟨L, 0, none⟩) (Nat.lt_succ_self _) (by simp; omega)).trans (((Kp.alloc [] _ _).trans ((Kp.alloc _ _ _).trans (Kp.drew _ _))).frozen HL.out (by simp))).trans HF.out; have HO' := hid hown'; have HG := hid hgrow; have HR := hid hor; clear hown' hgrow hor)
  all_goals go_wp2
  all_goals go_ret
  all_goals exact ⟨rfl, added_of HL.out HV.out ((Kp.alloc _ _ _).trans ((Kp.alloc _ _ _).trans (Kp.drew _ _))) ((HO.out.alloc _).alloc _).drew HG.out HO'.out, spares_add HV.out ((Kp.alloc _ _ _).trans ((Kp.alloc _ _ _).trans (Kp.drew _ _))) HG.out HR.out c0'⟩


theorem listAddS {L n : Nat} {xs : List Value} {d dp : Nat} {w : World} (h : Ls w L n xs d dp) (hn : n ≤ 100000) (kind next other slot depth : Int) (m : Nat → Bool) :
    Calls Tryd.prog 22 #[.pointer (some ⟨L, 0, none⟩), .agg (ins kind next other slot depth m).toArray] w fun e w' => e = .returned (.int .i64 n) ∧ Ls w' L (n + 1) (xs ++ ins kind next other slot depth m) d dp ∧ Below L w w' ∧ Spares L w w' := by
  obtain ⟨v, h1, h2, _⟩ := h.code
  exact (add_leaves' h1 h2 hn h.lt (h.free 0) kind next other slot depth m).mono fun e w' ⟨he, ha, hs⟩ => ⟨he, h.added ha, ha.below, hs⟩
theorem listAddS0 {L n : Nat} {xs : List Value} {d dp : Nat} {w : World} (h : Ls w L n xs d dp) (hn : n ≤ 100000) (kind next other slot depth : Int) :
    Calls Tryd.prog 22 #[.pointer (some ⟨L, 0, none⟩), .agg (ins0 kind next other slot depth).toArray] w fun e w' => e = .returned (.int .i64 n) ∧ Ls w' L (n + 1) (xs ++ ins0 kind next other slot depth) d dp ∧ Below L w w' ∧ Spares L w w' := by
  have := listAddS h hn kind next other slot depth noBytes
  rw [ins0_eq] at this
  exact this

set_option maxRecDepth 100000 in
set_option maxHeartbeats 800000 in
theorem one_emitS {L n : Nat} {xs : List Value} {d dp : Nat} {w : World} (h : Ls w L n xs d dp) (hn : n ≤ 100000) (next : Int) (m : Nat → Bool) :
    Calls Tryd.prog 81 #[setV m, .pointer (some ⟨L, 0, none⟩), .int .i64 next] w fun e w' => e = .returned (.int .i64 n) ∧ Ls w' L (n + 1) (xs ++ ins 0 next 0 0 d m) d dp ∧ Below L w w' ∧ Spares L w w' := by
  have c1 := h.c1
  have hl := h.lt
  go_enter Tryd.func81, Tryd.ntmps81
  go_wp2
  go_region_with (go_at_call 22; refine (listAddS (h.keep (by exact (Kp.alloc _ _ _).trans (Kp.drew _ _))) hn 0 next 0 0 d m).mono ?_; rintro e w1 ⟨rfl, h1, b1, s1⟩)
  all_goals go_wp2
  all_goals go_ret
  all_goals exact ⟨rfl, h1, (((Below.refl L w).alloc (by omega) _).drew).trans b1, (Spares.keep hl ((Kp.alloc _ _ _).trans (Kp.drew _ _))).trans s1⟩
end Go.Proofs.YtbakfojamdocgaaDoor
