/- What goOn makes of the finder at a pattern that is one class. -/
import Derived.Test.YtbakfojamdocgaaDoorYa
namespace Go.Proofs.YtbakfojamdocgaaDoor
open Go.RowKit

/-- The pattern of one class m: block p, its two instructions in block g. -/
structure Pf (w : World) (p g c : Nat) (m : Nat → Bool) : Prop where
  hp : p < w.heap.size
  hg : g < w.heap.size
  p0 : w.cell? ⟨p, 0, none⟩ = some (.slice (some ⟨g, 0, none⟩) 2 c)
  p1 : w.cell? ⟨p, 1, none⟩ = some (.int .i64 1)
  p2 : w.cell? ⟨p, 2, none⟩ = some (.int .i64 0)
  p3 : w.cell? ⟨p, 3, none⟩ = some (.int .i64 0)
  one : Ins w g 1 m
  end0 : w.cell? ⟨g, 0 * 9, none⟩ = some (.int .i64 6)

theorem Pf.keep {w W : World} {p g c : Nat} {m : Nat → Bool} (h : Pf w p g c m) (k : Kp [] w W) : Pf W p g c m :=
  ⟨Nat.lt_of_lt_of_le h.hp k.size, Nat.lt_of_lt_of_le h.hg k.size, (k.cell (p := ⟨p, 0, none⟩) h.hp (by simp)).trans h.p0, (k.cell (p := ⟨p, 1, none⟩) h.hp (by simp)).trans h.p1, (k.cell (p := ⟨p, 2, none⟩) h.hp (by simp)).trans h.p2, (k.cell (p := ⟨p, 3, none⟩) h.hp (by simp)).trans h.p3,
    h.one.of (fun i => k.cell (p := ⟨g, i, none⟩) h.hg (by simp)), (k.cell (p := ⟨g, 0 * 9, none⟩) h.hg (by simp)).trans h.end0⟩

section
variable {w W W' : World} {f p sb pl sq n3 n4 : Nat} {text : ByteArray} {v3 v4 v5 : Value} {xs3 xs4 : List Value} {b7 : Bool} {g c a : Nat} {m : Nat → Bool} {x : Int}

theorem Fs.at (h : Fs w W f p sb pl pl n3 n4 text v3 v4 v5 xs3 xs4 b7) (pf : Pf W p g c m) (ha : a < 2) (hpl : pl ≤ 1000) : At W f p g c sb a pl text m :=
  ⟨h.c0, h.c1, h.c2, h.c6, pf.p0, pf.p3, h.seen a ha, ha, hpl⟩

theorem Fs.taken {ys : List Value} (h : Fs w W f p sb pl pl n3 n4 text v3 v4 v5 xs3 xs4 b7) (ha : a < 2) (t : Taken f w.heap.size sb a pl n4 v5.ownBlock v4 xs4 x W W') (hy : ys = xs4 ++ th 0 0 x) :
    ∃ g' c' u5, Fs w W' f p sb pl (pl + 1) n3 (n4 + 1) text v3 (.slice (some ⟨g', 0, none⟩) (n4 + 1) c') u5 xs3 ys b7 := by
  obtain ⟨W1, mk, g', c', q1, q2, q3, q4⟩ := t
  obtain ⟨u5, h1⟩ := h.mark ha mk
  subst hy
  exact ⟨g', c', u5, h1.hit q1 q2 q3 q4⟩

theorem Fs.still (h : Fs w W f p sb pl pl n3 n4 text v3 v4 v5 xs3 xs4 b7) (ha : a < 2) (t : Still f w.heap.size sb a pl v5.ownBlock x W W') :
    ∃ u5, Fs w W' f p sb pl (pl + 1) n3 n4 text v3 v4 u5 xs3 xs4 b7 := by
  obtain ⟨W1, mk, k⟩ := t
  obtain ⟨u5, h1⟩ := h.mark ha mk
  exact ⟨u5, h1.keep k⟩

theorem slice_of {w : World} {base size n : Nat} {e : TypeId} {v : Value} {xs : List Value} (h : w.ownsRow base e size v n xs) : ∃ ao n c, v = .slice ao n c := by
  rcases h.2 with ⟨q, _⟩ | ⟨g, cap, cur, q1, _⟩
  · exact ⟨_, _, _, q⟩
  · exact ⟨_, _, _, q1⟩

theorem row_at {w : World} {base size n gh ch : Nat} {e : TypeId} {xs : List Value} (h : w.ownsRow base e size (.slice (some ⟨gh, 0, none⟩) n ch) n xs) : w.rangeAt gh 0 xs := fun j u hu => by
  have hj : j < n * size := by rw [← h.1]; exact (List.getElem?_eq_some_iff.1 hu).1
  rw [Nat.zero_add, h.cellAt j hj]; exact hu
theorem row_cap {w : World} {base size n gh ch : Nat} {e : TypeId} {xs : List Value} (h : w.ownsRow base e size (.slice (some ⟨gh, 0, none⟩) n ch) n xs) : n ≤ ch := by
  rcases h.2 with ⟨q, _⟩ | ⟨g, cap, cur, q1, _, _, q4, _⟩
  · cases q
  · simp at q1
    omega

theorem goOn_hit {gh ch : Nat} (h : Fs w W f p sb pl pl 1 0 text (.slice (some ⟨gh, 0, none⟩) 1 ch) v4 v5 (th 1 0 x) [] false) (pf : Pf w p g c m) (hpl : pl ≤ 1000) (hlt : pl < text.size) (hm : m (text[pl]).toNat = true) :
    Calls Tryd.prog 20 #[.pointer (some ⟨f, 0, none⟩)] W fun e W' => e = .returned (.tuple #[]) ∧ ∃ g' c' u5, Fs w W' f p sb pl (pl + 1) 1 0 text (.slice (some ⟨g', 0, none⟩) 1 c') (.slice (some ⟨gh, 0, none⟩) 0 ch) u5 (th 0 0 x) [] false := by
  refine (goOn_one (fun U' => ∃ U, Kp [] W U ∧ Taken f w.heap.size sb 1 pl 0 v5.ownBlock v4 [] x U U') h.c3 h.c7 (row_at h.o3) (row_cap h.o3) (fun U kU => ?_) (fun U' r => ?_)).mono ?_
  · have hU := h.keep kU
    have pU := pf.keep hU.kp
    have hp := pf.hp
    have hg := pf.hg
    have hfl := h.flo
    have hsl := h.slo
    refine (follow_hit (hU.at pU (by omega) hpl) pU.one hU.c4 (hU.free 4) hU.o4 (by omega) (fun k hk => ⟨(hU.x4 k hk).1, fun e => (hU.x4 k hk).2.2 e.symm, (hU.x4 k hk).2.1⟩) hU.c5 (fun e => (hU.x5 f e.symm).1 rfl) (hU.free 5) hU.o5 hU.kp.size hU.slice5
      (by omega) (own_ne hU.o5 hp) (by omega) h.ne (fun e => (hU.x5 sb e.symm).2 rfl) (by omega) (own_ne hU.o5 hg) (by omega) hg hlt hm).mono ?_
    rintro e U' ⟨he, t⟩
    exact ⟨he, U, kU, t⟩
  · obtain ⟨U, kU, t⟩ := r
    obtain ⟨g', c', u5, q⟩ := (h.keep kU).taken (ys := th 0 0 x) (by omega) t rfl
    exact ⟨q.c3, q.free 3, q.free 4, _, _, _, q.c4⟩
  · rintro e w' ⟨he, U', v, ⟨U, kU, t⟩, c4, s⟩
    obtain ⟨g', c', u5, q⟩ := (h.keep kU).taken (ys := th 0 0 x) (by omega) t rfl
    have e4 : v = _ := Option.some.inj (c4.symm.trans q.c4)
    subst e4
    exact ⟨he, g', c', u5, q.swap s⟩

theorem goOn_end {gh ch : Nat} (h : Fs w W f p sb pl pl 1 0 text (.slice (some ⟨gh, 0, none⟩) 1 ch) v4 v5 (th 1 0 x) [] false) (pf : Pf w p g c m) (hpl : pl ≤ 1000)
    (hend : decide (pl < text.size) = false ∨ ∃ hlt : pl < text.size, m (text[pl]'hlt).toNat = false) :
    Calls Tryd.prog 20 #[.pointer (some ⟨f, 0, none⟩)] W fun e W' => e = .returned (.tuple #[]) ∧ ∃ u5, Fs w W' f p sb pl (pl + 1) 0 0 text v4 (.slice (some ⟨gh, 0, none⟩) 0 ch) u5 [] [] false := by
  refine (goOn_one (fun U' => ∃ U, Kp [] W U ∧ Still f w.heap.size sb 1 pl v5.ownBlock x U U') h.c3 h.c7 (row_at h.o3) (row_cap h.o3) (fun U kU => ?_) (fun U' r => ?_)).mono ?_
  · have hU := h.keep kU
    have pU := pf.keep hU.kp
    have hp := pf.hp
    have hg := pf.hg
    have hfl := h.flo
    have hsl := h.slo
    refine (follow_still (hU.at pU (by omega) hpl) pU.one hU.c5 (fun e => (hU.x5 f e.symm).1 rfl) (hU.free 5) hU.o5 hU.kp.size hU.slice5
      (by omega) (own_ne hU.o5 hp) (by omega) h.ne (fun e => (hU.x5 sb e.symm).2 rfl) (by omega) (own_ne hU.o5 hg) (by omega) hend).mono ?_
    rintro e U' ⟨he, t⟩
    exact ⟨he, U, kU, t⟩
  · obtain ⟨U, kU, t⟩ := r
    obtain ⟨u5, q⟩ := (h.keep kU).still (by omega) t
    obtain ⟨ao, n, c, e4⟩ := slice_of q.o4
    exact ⟨q.c3, q.free 3, q.free 4, ao, n, c, by rw [q.c4, e4]⟩
  · rintro e w' ⟨he, U', v, ⟨U, kU, t⟩, c4, s⟩
    obtain ⟨u5, q⟩ := (h.keep kU).still (by omega) t
    have e4 : v = _ := Option.some.inj (c4.symm.trans q.c4)
    subst e4
    exact ⟨he, u5, q.swap s⟩

theorem goOn_found {gh ch : Nat} {x' : Int} (h : Fs w W f p sb pl pl 2 0 text (.slice (some ⟨gh, 0, none⟩) 2 ch) v4 v5 (th 0 0 x ++ th 1 0 x') [] false) (pf : Pf w p g c m) (hpl : pl ≤ 1000) (hx : decide (x < x') = true) :
    Calls Tryd.prog 20 #[.pointer (some ⟨f, 0, none⟩)] W fun e W' => e = .returned (.tuple #[]) ∧ Fe w W' f pl text x pl := by
  have hr := row_at h.o3
  have hr0 : W.rangeAt gh 0 (th 0 0 x) := fun j u hu => hr j u (by rw [List.getElem?_append_left (List.getElem?_eq_some_iff.1 hu).1]; exact hu)
  refine (goOn_two (nx' := 1) (dp' := 0) (x' := x') (fun U' => ∃ U, Kp [] W U ∧ FoundAt f w.heap.size sb 0 pl v5.ownBlock x U U') h.c3 h.c7 hr0 (row_cap h.o3) hx (fun U kU => ?_) (fun U' r => ?_)).mono ?_
  · have hU := h.keep kU
    have pU := pf.keep hU.kp
    have hp := pf.hp
    have hg := pf.hg
    have hfl := h.flo
    have hsl := h.slo
    refine (follow_found (hU.at pU (by omega) hpl) pU.end0 hU.c7 (fun j hj => ⟨hU.has j hj, hU.free _⟩) hU.free hU.c5 (fun e => (hU.x5 f e.symm).1 rfl) hU.o5 hU.kp.size hU.slice5
      (by omega) (own_ne hU.o5 hp) (by omega) h.ne (fun e => (hU.x5 sb e.symm).2 rfl) (by omega) (own_ne hU.o5 hg) (by omega)).mono ?_
    rintro e U' ⟨he, t⟩
    exact ⟨he, U, kU, t⟩
  · obtain ⟨U, kU, W1, mk, en⟩ := r
    obtain ⟨u5, q⟩ := (h.keep kU).mark (by omega) mk
    obtain ⟨ao, n, c, e4⟩ := slice_of q.o4
    have q3 := row_at q.o3
    refine ⟨(en.cell 3 (by omega)).trans q.c3, (en.free 3).trans (q.free 3), (en.free 4).trans (q.free 4), ⟨ao, n, c, by rw [en.cell 4 (by omega), q.c4, e4]⟩, en.found, en.best0, ?_⟩
    refine rangeAt_keep (w := W1) ?_ en.kept (by simpa using (q.x3 gh rfl).1)
    intro j u hu
    have := q3 (22 + j) u (by rw [List.getElem?_append_right (by simp)]; simpa using hu)
    simpa using this
  · rintro e w' ⟨he, U', v, ⟨U, kU, W1, mk, en⟩, c4, s⟩
    obtain ⟨u5, q⟩ := (h.keep kU).mark (by omega) mk
    exact ⟨he, q.ends en s⟩
end
end Go.Proofs.YtbakfojamdocgaaDoor
