/- A byte as often as may be, once at least: it is read, and its instructions. -/
import Derived.Test.YtanpiomfnbiilaaDoorRF
import Derived.Laws.OwnMore
import Derived.Test.YtanpiomfnbiilaaDoorLD
/- A byte as often as may be, once at least: it is read, and its instructions. -/
namespace Go.Proofs.YtanpiomfnbiilaaDoor
open Go.RowKit

abbrev repA (m : Nat → Bool) : Value := .agg #[oneV m, .int .i64 1, .int .i64 (-1)]
abbrev repV (m : Nat → Bool) : Value := .iface 103 (repA m)

theorem size_of_repeat (v : Value) (w : World) : (method 240 103 v "ribbon/pattern.size").run Tryd.prog w = .ok (85, v) w := by kernel_rfl
theorem emit_of_repeat (v : Value) (w : World) : (method 240 103 v "ribbon/pattern.emit").run Tryd.prog w = .ok (84, v) w := by kernel_rfl

set_option maxHeartbeats 400000 in
theorem repeated_plus {b : Nat} {src : ByteArray} {k g : Nat} (m : Nat → Bool) {w : World} (hr : Rd w b src k g) (h1 : saw src k 42 = false) (h2 : saw src k 43 = true) :
    Calls Tryd.prog 39 #[.pointer (some ⟨b, 0, none⟩), oneV m] w fun e w' => e = .returned (repV m) ∧ Rd w' b src (k + 1) g ∧ Kp [b] w w' := by
  go_enter Tryd.func39, Tryd.ntmps39
  go_wp2_with fail
  refine (take_no 42 hr h1).mono ?_
  rintro e w1 ⟨rfl, r1, k1⟩
  go_wp2_with fail
  refine (take_yes 43 r1 h2).mono ?_
  rintro e w2 ⟨rfl, r2, k2⟩
  go_wp2_with fail
  go_ret
  exact ⟨rfl, r2, k1.trans k2⟩

theorem piece_plus {b : Nat} {src : ByteArray} {k l g x : Nat} (hx : x < 256) (h94 : saw src k 94 = false) (h36 : saw src k 36 = false) (h40 : saw src k 40 = false) (h46 : saw src k 46 = false) (h91 : saw src k 91 = false) (hb : ByteOk b src special escaped k l g x)
    (h1 : saw src l 42 = false) (h2 : saw src l 43 = true) : PieceOk b src k (l + 1) g (repV (span noBytes x (x + 1))) := by
  intro w hr _
  go_enter Tryd.func36, Tryd.ntmps36
  go_wp2_with fail
  refine (take_no 94 hr h94).mono ?_
  rintro e w1 ⟨rfl, r1, k1⟩
  go_wp2_with fail
  refine (take_no 36 r1 h36).mono ?_
  rintro e w2 ⟨rfl, r2, k2⟩
  go_wp2_with fail
  refine (atom_byte r2 hx h40 h46 h91 hb).mono ?_
  rintro e w3 ⟨rfl, r3, k3⟩
  go_wp2_with fail
  refine (repeated_plus _ r3 h1 h2).mono ?_
  rintro e w4 ⟨rfl, r4, k4⟩
  go_wp2_with fail
  go_ret
  exact ⟨rfl, r4, k1.trans (k2.trans (k3.trans k4))⟩

set_option maxRecDepth 100000 in
set_option maxHeartbeats 800000 in
theorem rep_size (m : Nat → Bool) (w : World) : Calls Tryd.prog 85 #[repA m] w fun e w' => e = .returned (.int .i64 3) ∧ Kp [] w w' := by
  have hm := size_of_one
  go_enter Tryd.func85, Tryd.ntmps85
  go_wp2_with fail
  refine (one_size m _).mono ?_
  rintro e w1 ⟨rfl, k1⟩
  have c1 : w1.cell? ⟨w.heap.size, 1, none⟩ = some (.int .i64 1) := (k1.cell (p := ⟨w.heap.size, 1, none⟩) (by simp) (by simp)).trans (by simp)
  have c2 : w1.cell? ⟨w.heap.size, 2, none⟩ = some (.int .i64 (-1)) := (k1.cell (p := ⟨w.heap.size, 2, none⟩) (by simp) (by simp)).trans (by simp)
  have K1 : Kp [] w w1 := (Kp.alloc _ _ _).trans k1
  clear k1
  go_wp2_with fail
  go_ret
  exact ⟨rfl, K1⟩

/-- A block that is none of the list's. -/
def SafeT (L T : Nat) (w : World) : Prop := T < w.heap.size ∧ T ≠ L ∧ ∀ v, w.cell? ⟨L, 0, none⟩ = some v → v.ownBlock ≠ some T
/-- What is none of the list's stays. -/
def Spares (L : Nat) (w w' : World) : Prop := ∀ T, SafeT L T w → SafeT L T w' ∧ w'.heap[T]? = w.heap[T]?
theorem Spares.trans {L : Nat} {a b c : World} (h : Spares L a b) (k : Spares L b c) : Spares L a c := fun T s => by
  obtain ⟨h1, h2⟩ := h T s
  obtain ⟨k1, k2⟩ := k T h1
  exact ⟨k1, k2.trans h2⟩
theorem Spares.keep {L : Nat} {w w' : World} (hl : L < w.heap.size) (k : Kp [] w w') : Spares L w w' := fun T s => by
  refine ⟨⟨Nat.lt_of_lt_of_le s.1 k.size, s.2.1, fun v hv => s.2.2 v ?_⟩, k.block T s.1 (by simp)⟩
  rw [← hv]; exact (k.cell (p := ⟨L, 0, none⟩) hl (by simp)).symm
theorem Spares.set {L i : Nat} {w : World} (hi : i ≠ 0) (u : Value) : Spares L w (w.setCell ⟨L, i, none⟩ u) := fun T s => by
  refine ⟨⟨by simpa [World.setCell] using s.1, s.2.1, fun v hv => s.2.2 v ?_⟩, Below.heap_setCell _ _ _ _ s.2.1⟩
  rwa [cell_other _ (fun e => by injection e with _ e2 _; exact hi e2)] at hv
theorem Spares.cell {L T i : Nat} {w w' : World} {v : Value} (h : Spares L w w') (s : SafeT L T w) (hv : w.cell? ⟨T, i, none⟩ = some v) : w'.cell? ⟨T, i, none⟩ = some v :=
  (World.cell?_of_block (w := w) (h T s).2).trans hv

theorem spares_add {L n' g c : Nat} {v : Value} {w W w' : World} (hv : w.cell? ⟨L, 0, none⟩ = some v) (kW : Kp [] w W) (hg : W.grownBy w' v.ownBlock) (hor : v.ownBlock = some g ∨ W.heap.size ≤ g) (hc : w'.cell? ⟨L, 0, none⟩ = some v) :
    Spares L w (w'.setCell ⟨L, 0, none⟩ (.slice (some ⟨g, 0, none⟩) n' c)) := fun T s => by
  have hne := s.2.2 v hv
  have hTW : T < W.heap.size := Nat.lt_of_lt_of_le s.1 kW.size
  have hz : w'.heap.size ≤ (w'.setCell ⟨L, 0, none⟩ (.slice (some ⟨g, 0, none⟩) n' c)).heap.size := by simp [World.setCell]
  refine ⟨⟨Nat.lt_of_lt_of_le hTW (Nat.le_trans hg.size hz), s.2.1, fun u hu => ?_⟩, ?_⟩
  · rw [cell_same _ hc] at hu
    have e := (Option.some.inj hu).symm
    subst e
    intro q
    have e : g = T := by simpa [Value.ownBlock] using q
    rcases hor with r | r
    · exact hne (e ▸ r)
    · omega
  · exact (Below.heap_setCell _ _ _ _ s.2.1).trans ((hg.block T hTW (fun e => hne e.symm)).trans (kW.block T s.1 (by simp)))

theorem Ls.depth {w : World} {L n : Nat} {xs : List Value} {d dp : Nat} (h : Ls w L n xs d dp) (q : Nat) : Ls (w.setCell ⟨L, 1, none⟩ (.int .i64 (q : Int))) L n xs q dp := by
  obtain ⟨v, h1, h2, h3⟩ := h.code
  have cf : ∀ i, i ≠ 1 → (w.setCell ⟨L, 1, none⟩ (.int .i64 (q : Int))).cell? ⟨L, i, none⟩ = w.cell? ⟨L, i, none⟩ := fun i hi => cell_other _ (fun e => by injection e with _ e2 _; exact hi e2.symm)
  exact ⟨by simpa [World.setCell] using h.lt, ⟨v, (cf 0 (by omega)).trans h1, owns_of_block h2 (fun k hk _ => Below.heap_setCell _ _ _ _ (by have := (h2.lt k hk).1; show k ≠ L; omega)), h3⟩, cell_same _ h.c1, (cf 2 (by omega)).trans h.c2, fun i => by simpa using h.free i⟩
theorem Ls.deep {w : World} {L n : Nat} {xs : List Value} {d dp : Nat} (h : Ls w L n xs d dp) (q : Nat) : Ls (w.setCell ⟨L, 2, none⟩ (.int .i64 (q : Int))) L n xs d q := by
  obtain ⟨v, h1, h2, h3⟩ := h.code
  have cf : ∀ i, i ≠ 2 → (w.setCell ⟨L, 2, none⟩ (.int .i64 (q : Int))).cell? ⟨L, i, none⟩ = w.cell? ⟨L, i, none⟩ := fun i hi => cell_other _ (fun e => by injection e with _ e2 _; exact hi e2.symm)
  exact ⟨by simpa [World.setCell] using h.lt, ⟨v, (cf 0 (by omega)).trans h1, owns_of_block h2 (fun k hk _ => Below.heap_setCell _ _ _ _ (by have := (h2.lt k hk).1; show k ≠ L; omega)), h3⟩, (cf 1 (by omega)).trans h.c1, cell_same _ h.c2, fun i => by simpa using h.free i⟩
theorem below_set {w : World} {L i : Nat} (v : Value) {b : Nat} (hb : L ≤ b) : Below L w (w.setCell ⟨b, i, none⟩ v) :=
  ⟨rfl, rfl, rfl, by simp [World.setCell], fun k hk => Below.heap_setCell _ _ _ _ (by show k ≠ b; omega)⟩

set_option maxRecDepth 100000 in
set_option maxHeartbeats 1600000 in
theorem add_leaves' {L n : Nat} {xs : List Value} {v : Value} {w : World} (hv : w.cell? ⟨L, 0, none⟩ = some v) (hown : w.ownsRow (L + 1) 74 9 v n xs) (hn : n ≤ 100000) (hl : L < w.heap.size) (hf : w.frozen? ⟨L, 0, none⟩ = false) (kind next other slot depth : Int) (m : Nat → Bool) :
    Calls Tryd.prog 24 #[.pointer (some ⟨L, 0, none⟩), .agg (ins kind next other slot depth m).toArray] w fun e w' => e = .returned (.int .i64 n) ∧
      Added L (n + 1) (xs ++ ins kind next other slot depth m) w w' ∧ Spares L w w' := by
  obtain ⟨i0, hi, hz0, hz1, hz2⟩ := info_parts Tryd.infoIns
  have HO := hid hown
  have HV := hid hv
  have HF := hid hf
  have HL := hid hl
  clear hown
  have hins := ins_one kind next other slot depth m
  have HI := hid hins
  clear hins
  unfold ins at *
  go_enter Tryd.func24, Tryd.ntmps24
  go_wp2
  go_region_law (refine step_append2 rfl (.tmp 9) (.tmp 11) 45 rfl (L + 1) 74 i0 _ 9 72 Tryd.underlying45 hi hz0 hz1 hz2 rfl (by decide) v n xs (by simp [Act.eval]) (((HO.out.alloc _).alloc _).drew) ⟨w.heap.size + 1, 0, none⟩ 1 1 _ (by simp [Act.eval]) rfl (by exact news_cells (w.alloc _) _ _ _ (by simp)) HI.out (by unfold maxLen; omega) (by omega) (by simp; omega) (by decide) ?_; intro g c w' hown' hgrow hor; have c0' := ((grown_cell ((HO.out.alloc _).alloc _).drew hgrow (p := ⟨L, 0, none⟩) (Nat.lt_succ_self _) (by simp; omega)).trans (((Kp.alloc [] _ _).trans ((Kp.alloc _ _ _).trans (Kp.drew _ _))).cell HL.out (by simp))).trans HV.out; have f0' := ((grown_free ((HO.out.alloc _).alloc _).drew hgrow (p := ⟨L, 0, none⟩) (Nat.lt_succ_self _) (by simp; omega)).trans (((Kp.alloc [] _ _).trans ((Kp.alloc _ _ _).trans (Kp.drew _ _))).frozen HL.out (by simp))).trans HF.out; have HO' := hid hown'; have HG := hid hgrow; have HR := hid hor; clear hown' hgrow hor)
  all_goals go_wp2
  all_goals go_ret
  all_goals exact ⟨rfl, added_of HL.out HV.out ((Kp.alloc _ _ _).trans ((Kp.alloc _ _ _).trans (Kp.drew _ _))) ((HO.out.alloc _).alloc _).drew HG.out HO'.out, spares_add HV.out ((Kp.alloc _ _ _).trans ((Kp.alloc _ _ _).trans (Kp.drew _ _))) HG.out HR.out c0'⟩


theorem listAddS {L n : Nat} {xs : List Value} {d dp : Nat} {w : World} (h : Ls w L n xs d dp) (hn : n ≤ 100000) (kind next other slot depth : Int) (m : Nat → Bool) :
    Calls Tryd.prog 24 #[.pointer (some ⟨L, 0, none⟩), .agg (ins kind next other slot depth m).toArray] w fun e w' => e = .returned (.int .i64 n) ∧ Ls w' L (n + 1) (xs ++ ins kind next other slot depth m) d dp ∧ Below L w w' ∧ Spares L w w' := by
  obtain ⟨v, h1, h2, _⟩ := h.code
  exact (add_leaves' h1 h2 hn h.lt (h.free 0) kind next other slot depth m).mono fun e w' ⟨he, ha, hs⟩ => ⟨he, h.added ha, ha.below, hs⟩
theorem listAddS0 {L n : Nat} {xs : List Value} {d dp : Nat} {w : World} (h : Ls w L n xs d dp) (hn : n ≤ 100000) (kind next other slot depth : Int) :
    Calls Tryd.prog 24 #[.pointer (some ⟨L, 0, none⟩), .agg (ins0 kind next other slot depth).toArray] w fun e w' => e = .returned (.int .i64 n) ∧ Ls w' L (n + 1) (xs ++ ins0 kind next other slot depth) d dp ∧ Below L w w' ∧ Spares L w w' := by
  have := listAddS h hn kind next other slot depth noBytes
  rw [ins0_eq] at this
  exact this

set_option maxRecDepth 100000 in
set_option maxHeartbeats 800000 in
theorem one_emitS {L n : Nat} {xs : List Value} {d dp : Nat} {w : World} (h : Ls w L n xs d dp) (hn : n ≤ 100000) (next : Int) (m : Nat → Bool) :
    Calls Tryd.prog 88 #[setV m, .pointer (some ⟨L, 0, none⟩), .int .i64 next] w fun e w' => e = .returned (.int .i64 n) ∧ Ls w' L (n + 1) (xs ++ ins 0 next 0 0 d m) d dp ∧ Below L w w' ∧ Spares L w w' := by
  have c1 := h.c1
  have hl := h.lt
  go_enter Tryd.func88, Tryd.ntmps88
  go_wp2
  go_region_with (go_at_call 24; refine (listAddS (h.keep (by exact (Kp.alloc _ _ _).trans (Kp.drew _ _))) hn 0 next 0 0 d m).mono ?_; rintro e w1 ⟨rfl, h1, b1, s1⟩)
  all_goals go_wp2
  all_goals go_ret
  all_goals exact ⟨rfl, h1, (((Below.refl L w).alloc (by omega) _).drew).trans b1, (Spares.keep hl ((Kp.alloc _ _ _).trans (Kp.drew _ _))).trans s1⟩
end Go.Proofs.YtanpiomfnbiilaaDoor

/- A byte as often as may be, once at least: its instructions. -/
namespace Go.Proofs.YtanpiomfnbiilaaDoor
open Go.RowKit

theorem Ls.stored {w : World} {L n g c : Nat} {xs : List Value} {d dp : Nat} (h : Ls w L n xs d dp) (hv : w.cell? ⟨L, 0, none⟩ = some (.slice (some ⟨g, 0, none⟩) n c)) (j : Nat) (u : Value) :
    Ls (w.setCell ⟨g, j, none⟩ u) L n (xs.set j u) d dp ∧ Below L w (w.setCell ⟨g, j, none⟩ u) ∧ Spares L w (w.setCell ⟨g, j, none⟩ u) := by
  obtain ⟨v, h1, h2, h3⟩ := h.code
  have e : v = .slice (some ⟨g, 0, none⟩) n c := Option.some.inj (h1.symm.trans hv)
  subst e
  have hg := (h2.lt g (by simp [Value.ownBlock])).1
  have cf : ∀ i, (w.setCell ⟨g, j, none⟩ u).cell? ⟨L, i, none⟩ = w.cell? ⟨L, i, none⟩ := fun i => cell_other _ (fun e => by injection e with e1 _ _; omega)
  refine ⟨⟨by simpa [World.setCell] using h.lt, ⟨_, (cf 0).trans h1, (h2.stored j u).1, h3⟩, (cf 1).trans h.c1, (cf 2).trans h.c2, fun i => by simpa using h.free i⟩, below_set _ (by omega), fun T s => ?_⟩
  have hne : T ≠ g := fun e => s.2.2 _ h1 (by simp [Value.ownBlock, e])
  refine ⟨⟨by simpa [World.setCell] using s.1, s.2.1, fun v' hv' => s.2.2 v' ?_⟩, Below.heap_setCell _ _ _ _ hne⟩
  rwa [cf 0] at hv'

set_option maxRecDepth 100000 in
set_option maxHeartbeats 2000000 in
theorem turns_emit {L : Nat} {w : World} (h : Ls w L 1 (ins0 6 0 0 0 0) 0 0) (m : Nat → Bool) :
    Calls Tryd.prog 86 #[repA m, .pointer (some ⟨L, 0, none⟩), .int .i64 0] w fun e w' => e = .returned (.int .i64 1) ∧ Ls w' L 4 (ins0 6 0 0 0 0 ++ ins0 4 3 0 0 0 ++ ins0 5 1 0 0 0 ++ ins 0 2 0 0 1 m) 0 1 ∧ Below L w w' ∧ Spares L w w' := by
  have hm := emit_of_one
  have hl := h.lt
  have k0 := Kp.alloc [] w (.cells #[oneV m, .int .i64 1, .int .i64 (-1)] 103)
  have b0 : Below L w (w.alloc (.cells #[oneV m, .int .i64 1, .int .i64 (-1)] 103)) := (Below.refl L w).alloc (by omega) _
  have h0 := h.keep k0
  have s0 := Spares.keep hl k0
  have t0 : SafeT L w.heap.size (w.alloc (.cells #[oneV m, .int .i64 1, .int .i64 (-1)] 103)) := by
    refine ⟨by simp, by omega, fun v hv q => ?_⟩
    obtain ⟨v', h1, h2, _⟩ := h.code
    have e : v = v' := Option.some.inj (hv.symm.trans ((k0.cell (p := ⟨L, 0, none⟩) hl (by simp)).trans h1))
    subst e
    have := (h2.lt _ q).2
    omega
  have i0 : (w.alloc (.cells #[oneV m, .int .i64 1, .int .i64 (-1)] 103)).cell? ⟨w.heap.size, 0, none⟩ = some (oneV m) := by simp
  go_enter Tryd.func86, Tryd.ntmps86
  go_wp2_with fail
  refine (listAddS0 h0 (by omega) 4 0 0 0 0).mono ?_
  rintro e w1 ⟨rfl, l1, b1, s1⟩
  have d1 := l1.c1
  have i1 := s1.cell t0 i0
  have t1 := (s1 _ t0).1
  have B1 := b0.trans b1
  have S1 := s0.trans s1
  clear b0 b1 s0 s1 i0 t0 h0
  go_wp2_with fail
  refine (listAddS0 l1 (by omega) 5 1 0 0 0).mono ?_
  rintro e w2 ⟨rfl, l2, b2, s2⟩
  have i2 := s2.cell t1 i1
  have t2 := (s2 _ t1).1
  have B2 := B1.trans b2
  have S2 := S1.trans s2
  have d2 := l2.c1
  have e2 := l2.c2
  have f1 := l2.free 1
  have f2 := l2.free 2
  have hl2 := l2.lt
  clear B1 b2 S1 s2 i1 t1 l1 d1
  -- the depth
  have l3 := l2.depth 1
  have s3 : Spares L w2 (w2.setCell ⟨L, 1, none⟩ (.int .i64 ((1 : Nat) : Int))) := Spares.set (by omega) _
  have b3 : Below L w2 (w2.setCell ⟨L, 1, none⟩ (.int .i64 ((1 : Nat) : Int))) := below_set _ (Nat.le_refl _)
  have H2 := hid (And.intro l3 (And.intro s3 (And.intro b3 (And.intro i2 t2))))
  clear l3 s3 b3 i2 t2
  go_wp2_with fail
  have c1 : (w2.setCell ⟨L, 1, none⟩ (.int .i64 1)).cell? ⟨L, 1, none⟩ = some (.int .i64 1) := cell_same _ d2
  have c2 : (w2.setCell ⟨L, 1, none⟩ (.int .i64 1)).cell? ⟨L, 2, none⟩ = some (.int .i64 0) := (cell_other _ (by simp)).trans e2
  have f3 : (w2.setCell ⟨L, 1, none⟩ (.int .i64 1)).frozen? ⟨L, 2, none⟩ = false := by simpa using f2
  have ne : w.heap.size ≠ L := by omega
  have i4 : ((w2.setCell ⟨L, 1, none⟩ (.int .i64 1)).setCell ⟨L, 2, none⟩ (.int .i64 1)).drew.cell? ⟨w.heap.size, 0, none⟩ = some (oneV m) := by
    obtain ⟨_, _, _, i2, _⟩ := H2.out
    refine ((Kp.drew [] _).cell (p := ⟨w.heap.size, 0, none⟩) ?_ (by simp)).trans ?_
    · have := H2.out.2.2.2.2.1; simpa [World.setCell] using this
    · exact (cell_other _ (fun e => by injection e with e1 _ _; exact ne e1.symm)).trans ((cell_other _ (fun e => by injection e with e1 _ _; exact ne e1.symm)).trans i2)
  have H4 : Hid (Ls ((w2.setCell ⟨L, 1, none⟩ (.int .i64 1)).setCell ⟨L, 2, none⟩ (.int .i64 1)).drew L 3 (ins0 6 0 0 0 0 ++ ins0 4 0 0 0 0 ++ ins0 5 1 0 0 0) 1 1 ∧ Below L w ((w2.setCell ⟨L, 1, none⟩ (.int .i64 1)).setCell ⟨L, 2, none⟩ (.int .i64 1)).drew ∧ Spares L w ((w2.setCell ⟨L, 1, none⟩ (.int .i64 1)).setCell ⟨L, 2, none⟩ (.int .i64 1)).drew) := by
    obtain ⟨l3, s3, b3, _, _⟩ := H2.out
    have l4 := l3.deep 1
    have hl3 := l4.lt
    exact hid ⟨l4.keep (Kp.drew _ _), (B2.trans b3).trans ((below_set _ (Nat.le_refl _)).trans ((Below.refl _ _).drew)), (S2.trans s3).trans ((Spares.set (by omega) _).trans (Spares.keep hl3 (Kp.drew _ _)))⟩
  clear H2 B2 S2 d2 e2 f1 l2
  go_region
  all_goals go_wp2_with fail
  refine (one_emitS H4.out.1 (by omega) 2 m).mono ?_
  rintro e w5 ⟨rfl, l5, b5, s5⟩
  have d5 := l5.c1
  have f5 := l5.free 1
  have l6 := l5.depth 0
  have B6 := H4.out.2.1.trans (b5.trans (below_set (i := 1) (.int .i64 ((0 : Nat) : Int)) (Nat.le_refl L)))
  have S6 := H4.out.2.2.trans (s5.trans (Spares.set (i := 1) (by omega) (.int .i64 ((0 : Nat) : Int))))
  obtain ⟨v, hv, hown, hor⟩ := l6.code
  obtain ⟨g, c, rfl⟩ : ∃ g c, v = .slice (some ⟨g, 0, none⟩) 4 c := by
    rcases hown.2 with ⟨_, e⟩ | ⟨g, c, _, e, _⟩
    · omega
    · exact ⟨g, c, e⟩
  have fz := hown.frozenAt 10
  have cz := hown.cellAt 10 (by omega)
  have cz : (w5.setCell ⟨L, 1, none⟩ (.int .i64 0)).cell? ⟨g, 10, none⟩ = some (.int .i64 0) := cz
  have fz : (w5.setCell ⟨L, 1, none⟩ (.int .i64 0)).frozen? ⟨g, 10, none⟩ = false := fz
  have hv' : (w5.setCell ⟨L, 1, none⟩ (.int .i64 0)).cell? ⟨L, 0, none⟩ = some (.slice (some ⟨g, 0, none⟩) 4 c) := hv
  have L7 := l6.stored hv 10 (.int .i64 3)
  have H6 := hid (And.intro L7 (And.intro B6 S6))
  have HH := hid hown
  clear hown hor L7
  clear l6 B6 S6 b5 s5 i4 c1 c2 f3 H4
  go_wp2_with fail
  go_ret
  obtain ⟨⟨a1, a2, a3⟩, a4, a5⟩ := H6.out
  exact ⟨rfl, a1, a4.trans a2, a5.trans a3⟩
end Go.Proofs.YtanpiomfnbiilaaDoor

/- A byte as often as may be, once at least: all its instructions. -/
namespace Go.Proofs.YtanpiomfnbiilaaDoor
open Go.RowKit

set_option maxRecDepth 100000 in
set_option maxHeartbeats 2000000 in
theorem rep_emit {L : Nat} {w : World} (h : Ls w L 1 (ins0 6 0 0 0 0) 0 0) (m : Nat → Bool) :
    Calls Tryd.prog 84 #[repA m, .pointer (some ⟨L, 0, none⟩), .int .i64 0] w fun e w' => e = .returned (.int .i64 4) ∧ Ls w' L 5 (ins0 6 0 0 0 0 ++ ins0 4 3 0 0 0 ++ ins0 5 1 0 0 0 ++ ins 0 2 0 0 1 m ++ ins 0 1 0 0 0 m) 0 1 ∧ Below L w w' := by
  have hm := emit_of_one
  have hl := h.lt
  have k0 := Kp.alloc [] w (.cells #[oneV m, .int .i64 1, .int .i64 (-1)] 103)
  have b0 : Below L w (w.alloc (.cells #[oneV m, .int .i64 1, .int .i64 (-1)] 103)) := (Below.refl L w).alloc (by omega) _
  have h0 := h.keep k0
  have t0 : SafeT L w.heap.size (w.alloc (.cells #[oneV m, .int .i64 1, .int .i64 (-1)] 103)) := by
    refine ⟨by simp, by omega, fun v hv q => ?_⟩
    obtain ⟨v', h1, h2, _⟩ := h.code
    have e : v = v' := Option.some.inj (hv.symm.trans ((k0.cell (p := ⟨L, 0, none⟩) hl (by simp)).trans h1))
    subst e
    have := (h2.lt _ q).2
    omega
  have i0 : (w.alloc (.cells #[oneV m, .int .i64 1, .int .i64 (-1)] 103)).cell? ⟨w.heap.size, 0, none⟩ = some (oneV m) := by simp
  have j0 : (w.alloc (.cells #[oneV m, .int .i64 1, .int .i64 (-1)] 103)).cell? ⟨w.heap.size, 1, none⟩ = some (.int .i64 1) := by simp
  have q0 : (w.alloc (.cells #[oneV m, .int .i64 1, .int .i64 (-1)] 103)).cell? ⟨w.heap.size, 2, none⟩ = some (.int .i64 (-1)) := by simp
  go_enter Tryd.func84, Tryd.ntmps84
  go_wp2_with fail
  refine (turns_emit h0 m).mono ?_
  rintro e w1 ⟨rfl, l1, b1, s1⟩
  have i1 := s1.cell t0 i0
  have j1 := s1.cell t0 j0
  have t1 := (s1 _ t0).1
  have B1 := b0.trans b1
  clear b0 b1 s1 i0 t0 h0 j0
  go_wp2_with fail
  go_loopw [7, 21] (fun bg i wr => (bg = .int .i64 1 ∧ i = .int .i64 0 ∧ wr = w1) ∨ (bg = .int .i64 4 ∧ i = .int .i64 1 ∧ Ls wr L 5 (ins0 6 0 0 0 0 ++ ins0 4 3 0 0 0 ++ ins0 5 1 0 0 0 ++ ins 0 2 0 0 1 m ++ ins 0 1 0 0 0 m) 0 1 ∧ Below L w wr)) (fun _ i _ => (2 - (intOf i)).toNat)
  case atStart => exact .inl ⟨rfl, rfl, rfl⟩
  case round =>
    rcases hrel with ⟨rfl, rfl, rfl⟩ | ⟨rfl, rfl, l2, B2⟩
    · go_wp2_with fail
      refine (one_emitS l1 (by omega) 1 m).mono ?_
      rintro e w2 ⟨rfl, l2, b2, _⟩
      go_wp2_with fail
      exact ⟨.inr ⟨rfl, rfl, l2, B1.trans b2⟩, by simp [intOf]⟩
    · go_wp2_with fail
      go_ret
      exact ⟨rfl, l2, B2⟩
end Go.Proofs.YtanpiomfnbiilaaDoor

/- A byte as often as may be, once at least, alone in a pattern: the pattern is read. -/
namespace Go.Proofs.YtanpiomfnbiilaaDoor
open Go.RowKit

set_option maxRecDepth 100000 in
set_option maxHeartbeats 1000000 in
theorem rep_row_size {B : Nat} {v : Value} {w : World} {m : Nat → Bool} (own : w.ownsRow B 61 1 v 1 [repV m]) :
    Calls Tryd.prog 81 #[v] w fun e w' => e = .returned (.int .i64 3) ∧ Kp [] w w' := by
  have hm1 := size_of_repeat
  rcases own_form own with ⟨_, q⟩ | ⟨r, c, rfl⟩
  · cases q
  have hc := row_at own 0 (repV m) rfl
  clear own
  go_enter Tryd.func81, Tryd.ntmps81
  go_wp2_with fail
  refine wp_loop_rounds 2 ?_
  rw [rounds_succ]
  go_wp2_with fail
  refine (rep_size m _).mono ?_
  rintro e w1 ⟨rfl, k1⟩
  go_wp2_with fail
  rw [rounds_succ]
  go_wp2_with fail
  go_ret
  exact ⟨by go_num, k1⟩

set_option maxRecDepth 100000 in
set_option maxHeartbeats 1000000 in
theorem rep_row_emit {B L : Nat} {v : Value} {w : World} {m : Nat → Bool} (h : Ls w L 1 (ins0 6 0 0 0 0) 0 0) (own : w.ownsRow B 61 1 v 1 [repV m]) :
    Calls Tryd.prog 80 #[v, .pointer (some ⟨L, 0, none⟩), .int .i64 0] w fun e w' => e = .returned (.int .i64 4) ∧ Ls w' L 5 (ins0 6 0 0 0 0 ++ ins0 4 3 0 0 0 ++ ins0 5 1 0 0 0 ++ ins 0 2 0 0 1 m ++ ins 0 1 0 0 0 m) 0 1 ∧ Below L w w' := by
  have hm1 := emit_of_repeat
  rcases own_form own with ⟨_, q⟩ | ⟨r, c, rfl⟩
  · cases q
  have hc := row_at own 0 (repV m) rfl
  have HL := hid h
  clear own h
  go_enter Tryd.func80, Tryd.ntmps80
  go_wp2_with fail
  refine wp_loop_rounds 2 ?_
  rw [rounds_succ]
  go_wp2_with fail
  refine (rep_emit HL.out m).mono ?_
  rintro e w1 ⟨rfl, l1, b1⟩
  have L1 := hid l1
  clear l1
  go_wp2_with fail
  rw [rounds_succ]
  go_wp2_with fail
  go_ret
  exact ⟨by go_num, L1.out, b1⟩

set_option maxRecDepth 100000 in
set_option maxHeartbeats 400000 in
theorem rep_branches_size {B q : Nat} {v : Value} {w : World} {m : Nat → Bool} (hq : w.cell? ⟨q, 0, none⟩ = some (.iface 94 v)) (own : w.ownsRow B 61 1 v 1 [repV m]) :
    Calls Tryd.prog 79 #[.slice (some ⟨q, 0, none⟩) 1 1] w fun e w' => e = .returned (.int .i64 3) ∧ Kp [] w w' := by
  have hm := size_of_row
  have OWN := hid own
  clear own
  go_enter Tryd.func79, Tryd.ntmps79
  go_wp2_with fail
  refine wp_loop_rounds 2 ?_
  rw [rounds_succ]
  go_wp2_with fail
  refine (rep_row_size OWN.out).mono ?_
  rintro e w1 ⟨rfl, k1⟩
  go_wp2_with fail
  rw [rounds_succ]
  go_wp2_with fail
  go_ret
  exact ⟨by go_num, k1⟩

set_option maxRecDepth 100000 in
set_option maxHeartbeats 400000 in
theorem rep_branches_emit {B L q : Nat} {v : Value} {w : World} {m : Nat → Bool} (h : Ls w L 1 (ins0 6 0 0 0 0) 0 0) (hq : w.cell? ⟨q, 0, none⟩ = some (.iface 94 v)) (own : w.ownsRow B 61 1 v 1 [repV m]) :
    Calls Tryd.prog 78 #[.slice (some ⟨q, 0, none⟩) 1 1, .pointer (some ⟨L, 0, none⟩), .int .i64 0] w fun e w' => e = .returned (.int .i64 4) ∧ Ls w' L 5 (ins0 6 0 0 0 0 ++ ins0 4 3 0 0 0 ++ ins0 5 1 0 0 0 ++ ins 0 2 0 0 1 m ++ ins 0 1 0 0 0 m) 0 1 ∧ Below L w w' := by
  have hm := emit_of_row
  have OWN := hid own
  have HL := hid h
  clear own h
  go_enter Tryd.func78, Tryd.ntmps78
  go_wp2_with fail
  refine (rep_row_emit HL.out OWN.out).mono ?_
  rintro e w1 ⟨rfl, h1, b1⟩
  have H1 := hid h1
  clear hq h1
  go_wp2_with fail
  refine wp_loop_rounds 1 ?_
  rw [rounds_succ]
  go_wp2_with fail
  go_ret
  exact ⟨rfl, H1.out, b1⟩

theorem reads_plus {src : ByteArray} {m : Nat → Bool} (hp : ∀ b, b ≠ 0 → RowOk b src 0 0 [repV m]) : Reads src 0 0 5 4 1 (ins0 6 0 0 0 0 ++ ins0 4 3 0 0 0 ++ ins0 5 1 0 0 0 ++ ins 0 2 0 0 1 m ++ ins 0 1 0 0 0 m) := by
  intro w b hb hr hw
  refine (whole_row hr hw hb (hp b hb) (by simp)).mono ?_
  rintro e w1 ⟨q, v, rfl, hq1, hq2, hq3, own1, r1, k1⟩
  refine ⟨_, 3, rfl, r1, k1, by omega, ?_, ?_⟩
  · intro w2 k2
    exact rep_branches_size ((k2.cell (p := ⟨q, 0, none⟩) hq2 (by simp)).trans hq3) (ownsRow_keep own1 k2 (by simp))
  · intro w2 L k2 hL w4 b4 l4
    refine rep_branches_emit l4 ((b4.cell (p := ⟨q, 0, none⟩) (by show q < L; omega)).trans ((k2.cell (p := ⟨q, 0, none⟩) hq2 (by simp)).trans hq3)) (owns_of_block (ownsRow_keep own1 k2 (by simp)) (fun kk hkk _ => b4.block kk ?_))
    have := (own1.lt kk hkk).2
    omega
end Go.Proofs.YtanpiomfnbiilaaDoor

/- What the machine does is one thing: worked out; 'b+' in 'abbc'. -/
namespace Go.Proofs.YtanpiomfnbiilaaDoor
open Go.RowKit

section
variable {cd : Nat → In} {n D : Nat} {text : ByteArray}

theorem drive_more {pl : Nat} {r : Mc} : ∀ (k : Nat) (o : Option Thr) (s : Mc), drive cd n D text pl k o s = some r → drive cd n D text pl (k + 1) o s = some r
  | 0, o, s, h => by rw [drive] at h; cases h
  | k + 1, some t, s, h => by
    rw [drive] at h ⊢
    split at h
    · next q => rw [if_pos q]; exact drive_more k _ _ h
    · next q => rw [if_neg q]; exact drive_more k _ _ h
  | k + 1, none, s, h => by
    rw [drive] at h ⊢
    cases e : s.left.getLast? with
    | none => rw [e] at h; exact h
    | some t => rw [e] at h; exact drive_more k _ _ h
theorem drive_le {pl : Nat} {r : Mc} {o : Option Thr} {s : Mc} {k : Nat} (h : drive cd n D text pl k o s = some r) : ∀ j, drive cd n D text pl (k + j) o s = some r
  | 0 => h
  | j + 1 => drive_more _ _ _ (drive_le h j)
theorem drive_one {pl : Nat} {r r' : Mc} {o : Option Thr} {s : Mc} {k k' : Nat} (h : drive cd n D text pl k o s = some r) (h' : drive cd n D text pl k' o s = some r') : r = r' := by
  have a := drive_le h k'
  have b := drive_le h' k
  rw [Nat.add_comm k' k] at b
  exact Option.some.inj (a.symm.trans b)

/-- All ways of a place, with so much patience. -/
def sweepF (cd : Nat → In) (n D : Nat) (text : ByteArray) (F pl : Nat) : List Thr → Mc → Option Mc
  | [], s => some s
  | t :: l, s => if s.fd = true ∧ s.best 0 < t.x 0 then some s else match drive cd n D text pl F (some t) s with
    | some s1 => sweepF cd n D text F pl l s1
    | none => none
theorem sweep_one {pl F : Nat} {r s' : Mc} : ∀ (l : List Thr) (s : Mc), Sweep cd n D text pl l s s' → sweepF cd n D text F pl l s = some r → s' = r
  | [], s, h, e => by rw [Sweep] at h; rw [sweepF] at e; rw [h]; exact Option.some.inj e
  | t :: l, s, h, e => by
    rw [Sweep] at h; rw [sweepF] at e
    rcases h with ⟨h1, h2, h3⟩ | ⟨h1, s1, ⟨k, h2⟩, h3⟩
    · rw [if_pos ⟨h1, h2⟩] at e; rw [h3]; exact Option.some.inj e
    · rw [if_neg h1] at e
      cases q : drive cd n D text pl F (some t) s with
      | none => rw [q] at e; cases e
      | some s2 =>
        rw [q] at e
        have := drive_one h2 q
        subst this
        exact sweep_one l s1 h3 e
/-- Place by place, with so much patience. -/
def runsF (cd : Nat → In) (n D : Nat) (text : ByteArray) (bg F : Nat) : Nat → Nat → List Thr → Mc → Option Mc
  | 0, _, _, s => some s
  | k + 1, pl, here, s => match (if s.fd = true then here else here ++ [⟨bg, 0, nz pl⟩]) with
    | [] => some s
    | t :: l => match sweepF cd n D text F pl (t :: l) s with
      | some s1 => runsF cd n D text bg F k (pl + 1) s1.ahead { s1 with ahead := [] }
      | none => none
theorem runs_one {bg F : Nat} {r s' : Mc} : ∀ (k pl : Nat) (here : List Thr) (s : Mc), Runs cd n D text bg k pl here s s' → runsF cd n D text bg F k pl here s = some r → s' = r
  | 0, pl, here, s, h, e => by rw [Runs] at h; rw [runsF] at e; rw [h]; exact Option.some.inj e
  | k + 1, pl, here, s, h, e => by
    rw [Runs] at h; rw [runsF] at e
    generalize (if s.fd = true then here else here ++ [⟨bg, 0, nz pl⟩]) = hh at h e
    cases hh with
    | nil =>
      rcases h with ⟨_, h⟩ | ⟨h, _⟩
      · rw [h]; exact Option.some.inj e
      · exact absurd rfl h
    | cons t l =>
      rcases h with ⟨h, _⟩ | ⟨_, s1, h1, h2⟩
      · cases h
      · cases q : sweepF cd n D text F pl (t :: l) s with
        | none => simp only [q] at e; cases e
        | some s2 =>
          simp only [q] at e
          have := sweep_one _ _ h1 q
          subst this
          exact runs_one k (pl + 1) _ _ h2 e
end

/-- found says true where the machine says so: a pattern without groups. -/
theorem found_gen {src text : ByteArray} {n bg deepest : Nat} {xs : List Value} {cd : Nat → In} {w : World} {a b : Nat} (hw : Nm w) (hs : src.size ≤ 100) (ht : text.size ≤ 1000) (hn : n * (deepest + 1) ≤ 9000) (hbg : bg < n) (hp : Reads src 0 0 n bg deepest xs)
    (hcd : ∀ (B : Nat) (w : World) (p : Nat), PtR B w p n bg 0 deepest xs → ∃ g c, Cd w p g c n deepest cd)
    (hres : ∀ s', Runs cd n deepest text bg (text.size + 1) 0 [] mc0 s' → s'.fd = true ∧ s'.best 0 = a ∧ s'.best 1 = b) :
    Calls Tryd.prog 10 #[.string src, .string text, .int .i64 a, .int .i64 b] w fun e w' => e = .returned (.bool true) ∧ Kp [] w w' := by
  have hm : Calls Tryd.prog 13 #[.string src, .string text] w fun e w' => Kp [] w w' ∧ ∃ q z, e = .returned (.tuple #[.slice (some ⟨q, 0, none⟩) 2 z, .int .i64 0, .int .i64 0]) ∧ w'.cell? ⟨q, 0, none⟩ = some (.int .i64 a) ∧ w'.cell? ⟨q, 1, none⟩ = some (.int .i64 b) := by
    have hts : ¬ (1000 : Int) < text.size := by omega
    go_enter Tryd.func13, Tryd.ntmps13
    go_wp2_with fail
    refine (readPattern_gen hw hs (by omega) hp).mono ?_
    rintro e w1 ⟨p, rfl, pt, k1⟩
    obtain ⟨g, c, hcd1⟩ := hcd _ _ _ pt
    have HCD := hid (And.intro hcd1 (And.intro pt.c1 pt.c2))
    clear hcd1 pt hp hcd
    go_wp2_with fail
    refine (find_any (bg := bg) (G := 0) HCD.out.1 HCD.out.2.1 HCD.out.2.2 hbg hn (by omega) (by omega)).mono ?_
    rintro e w2 ⟨k2, s', runs, hr⟩
    obtain ⟨h1, h2, h3⟩ := hres s' runs
    have H1 := hid (And.intro h1 (And.intro h2 h3))
    clear hres runs h1 h2 h3
    rcases hr with ⟨hfd, rfl⟩ | ⟨hfd, b, z, rfl, hc⟩
    · rw [H1.out.1] at hfd; cases hfd
    · go_wp2_with fail
      go_ret3
      exact ⟨k1.trans k2, b, z, rfl, by rw [hc 0 (by omega), H1.out.2.1], by rw [hc 1 (by omega), H1.out.2.2]⟩
  have hneg : ¬ (a : Int) < 0 := by omega
  have HM := hid hm
  clear hm hp hcd hres
  go_enter Tryd.func10, Tryd.ntmps10
  go_wp2_with fail
  refine HM.out.mono ?_
  rintro e w1 ⟨k1, q, z, rfl, c0, c1⟩
  go_wp2_with fail
  go_ret
  exact ⟨rfl, k1⟩

/-- The instructions of a byte as often as may be, once at least. -/
def plusCd (m : Nat → Bool) : Nat → In
  | 1 => ⟨4, 3, 0, 0, 0, noBytes⟩
  | 2 => ⟨5, 1, 0, 0, 0, noBytes⟩
  | 3 => ⟨0, 2, 0, 0, 1, m⟩
  | 4 => ⟨0, 1, 0, 0, 0, m⟩
  | _ => ⟨6, 0, 0, 0, 0, noBytes⟩

attribute [local irreducible] wd in
set_option maxHeartbeats 1000000 in
theorem cd_plus {B : Nat} {w : World} {p : Nat} {m : Nat → Bool} {bg : Int} (pt : PtR B w p 5 bg 0 1 (ins0 6 0 0 0 0 ++ ins0 4 3 0 0 0 ++ ins0 5 1 0 0 0 ++ ins 0 2 0 0 1 m ++ ins 0 1 0 0 0 m)) : ∃ g c, Cd w p g c 5 1 (plusCd m) := by
  obtain ⟨g, c, h1, h2⟩ := pt.code
  have hl := (h2.lt g rfl).2
  have hz : ∀ i, wd noBytes i = 0 := wd_none
  have cell : ∀ a, a < 5 → ∀ j, j < 9 → w.cell? ⟨g, a * 9 + j, none⟩ = [Value.int .i64 (plusCd m a).kind, .int .i64 (plusCd m a).nx, .int .i64 (plusCd m a).ot, .int .i64 (plusCd m a).sl, .int .i64 (plusCd m a).dp, .int .u64 (wd (plusCd m a).m 0), .int .u64 (wd (plusCd m a).m 1), .int .u64 (wd (plusCd m a).m 2), .int .u64 (wd (plusCd m a).m 3)][j]? := by
    intro a ha j hj
    rw [h2.cellAt (a * 9 + j) (by omega)]
    match a, ha with
    | 0, _ => simp only [plusCd, hz]; match j, hj with
      | 0, _ | 1, _ | 2, _ | 3, _ | 4, _ | 5, _ | 6, _ | 7, _ | 8, _ => rfl
    | 1, _ => simp only [plusCd, hz]; match j, hj with
      | 0, _ | 1, _ | 2, _ | 3, _ | 4, _ | 5, _ | 6, _ | 7, _ | 8, _ => rfl
    | 2, _ => simp only [plusCd, hz]; match j, hj with
      | 0, _ | 1, _ | 2, _ | 3, _ | 4, _ | 5, _ | 6, _ | 7, _ | 8, _ => rfl
    | 3, _ => simp only [plusCd, ins]; match j, hj with
      | 0, _ | 1, _ | 2, _ | 3, _ | 4, _ | 5, _ | 6, _ | 7, _ | 8, _ => rfl
    | 4, _ => simp only [plusCd, ins]; match j, hj with
      | 0, _ | 1, _ | 2, _ | 3, _ | 4, _ | 5, _ | 6, _ | 7, _ | 8, _ => rfl
  have good : ∀ a, a < 5 → (plusCd m a).kind ≤ 6 ∧ (plusCd m a).nx < 5 ∧ (plusCd m a).ot < 5 ∧ (plusCd m a).sl < 20 ∧ (plusCd m a).dp ≤ 1 := by
    intro a ha
    match a, ha with
    | 0, _ | 1, _ | 2, _ | 3, _ | 4, _ => simp [plusCd]
  exact ⟨g, c, ⟨pt.lt, hl, h1, pt.c3, fun a ha => cell a ha 0 (by omega), fun a ha => cell a ha 1 (by omega), fun a ha => cell a ha 2 (by omega), fun a ha => cell a ha 3 (by omega), fun a ha => cell a ha 4 (by omega), fun a ha => cell a ha 5 (by omega), fun a ha => cell a ha 6 (by omega), fun a ha => cell a ha 7 (by omega), fun a ha => cell a ha 8 (by omega), good⟩⟩

def abbc : ByteArray := ⟨#[97, 98, 98, 99]⟩
def bplus : ByteArray := ⟨#[98, 43]⟩

theorem runs_bplus : (runsF (plusCd (span noBytes 98 99)) 5 1 abbc 4 50 5 0 [] mc0).map (fun s => (s.fd, s.best 0, s.best 1)) = some (true, 1, 3) := by
  decide +kernel

theorem row_bplus (b : Nat) : RowOk b bplus 0 0 [repV (span noBytes 98 99)] := by
  refine ⟨by decide, by decide, by decide, ⟨_, _, rfl⟩, 2, by omega, ?_, rfl⟩
  exact piece_plus (l := 1) (by omega) (by decide) (by decide) (by decide) (by decide) (by decide) (byte_plain (src := bplus) (k := 0) (by decide) (by decide) (by decide) (by decide)) (by decide) (by decide)

theorem found_bplus {w : World} (hw : Nm w) : Calls Tryd.prog 10 #[.string bplus, .string abbc, .int .i64 1, .int .i64 3] w fun e w' => e = .returned (.bool true) ∧ Kp [] w w' := by
  refine found_gen (a := 1) (b := 3) (bg := 4) hw (by decide) (by decide) (by decide) (by decide) (reads_plus (fun b _ => row_bplus b)) (fun B w p pt => cd_plus pt) (fun s' h => ?_)
  have q := runs_bplus
  cases e : runsF (plusCd (span noBytes 98 99)) 5 1 abbc 4 50 5 0 [] mc0 with
  | none => rw [e] at q; cases q
  | some r =>
    have := runs_one (F := 50) _ _ _ _ h e
    subst this
    rw [e] at q
    simp only [Option.map_some, Option.some.injEq, Prod.mk.injEq] at q
    exact ⟨q.1, q.2.1, q.2.2⟩
end Go.Proofs.YtanpiomfnbiilaaDoor
