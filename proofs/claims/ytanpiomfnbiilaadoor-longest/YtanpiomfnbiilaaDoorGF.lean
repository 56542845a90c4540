/- The finder as a machine: one instruction, and that step does it. -/
import Derived.Test.YtanpiomfnbiilaaDoorGE
namespace Go.Proofs.YtanpiomfnbiilaaDoor
open Go.RowKit

/-- One instruction; where the way goes on at this place, and the state behind it. -/
def stepA (cd : Nat → In) (text : ByteArray) (pl : Nat) (t : Thr) (s : Mc) : Option Thr × Mc :=
  let i := cd t.pc
  if i.kind = 0 then
    if h : pl < text.size then
      if i.m (text[pl]'h).toNat = true then (none, { s with ahead := s.ahead ++ [⟨i.nx, i.dp, t.x⟩] }) else (none, s)
    else (none, s)
  else if i.kind = 1 then (if pl = 0 then (some ⟨i.nx, t.tk, t.x⟩, s) else (none, s))
  else if i.kind = 2 then (if pl = text.size then (some ⟨i.nx, t.tk, t.x⟩, s) else (none, s))
  else if i.kind = 3 then (some ⟨i.nx, t.tk, nu t.x i.sl pl⟩, s)
  else if i.kind = 4 then (some ⟨i.nx, t.tk, t.x⟩, { s with left := s.left ++ [⟨i.ot, t.tk, t.x⟩] })
  else if i.kind = 5 then (if t.tk ≤ i.dp then (none, s) else (some ⟨i.nx, i.dp, t.x⟩, s))
  else (none, { s with fd := true, best := nu t.x 1 pl })

/-- The code lies in block g, that of the pattern's block p. -/
structure Cd (w : World) (p g c n D : Nat) (cd : Nat → In) : Prop where
  hp : p < w.heap.size
  hg : g < w.heap.size
  p0 : w.cell? ⟨p, 0, none⟩ = some (.slice (some ⟨g, 0, none⟩) n c)
  p3 : w.cell? ⟨p, 3, none⟩ = some (.int .i64 D)
  k0 : ∀ a, a < n → w.cell? ⟨g, a * 9, none⟩ = some (.int .i64 (cd a).kind)
  k1 : ∀ a, a < n → w.cell? ⟨g, a * 9 + 1, none⟩ = some (.int .i64 (cd a).nx)
  k2 : ∀ a, a < n → w.cell? ⟨g, a * 9 + 2, none⟩ = some (.int .i64 (cd a).ot)
  k3 : ∀ a, a < n → w.cell? ⟨g, a * 9 + 3, none⟩ = some (.int .i64 (cd a).sl)
  k4 : ∀ a, a < n → w.cell? ⟨g, a * 9 + 4, none⟩ = some (.int .i64 (cd a).dp)
  k5 : ∀ a, a < n → w.cell? ⟨g, a * 9 + 5, none⟩ = some (.int .u64 (wd (cd a).m 0))
  k6 : ∀ a, a < n → w.cell? ⟨g, a * 9 + 5 + 1, none⟩ = some (.int .u64 (wd (cd a).m 1))
  k7 : ∀ a, a < n → w.cell? ⟨g, a * 9 + 5 + 2, none⟩ = some (.int .u64 (wd (cd a).m 2))
  k8 : ∀ a, a < n → w.cell? ⟨g, a * 9 + 5 + 3, none⟩ = some (.int .u64 (wd (cd a).m 3))
  ok : ∀ a, a < n → (cd a).kind ≤ 6 ∧ (cd a).nx < n ∧ (cd a).ot < n ∧ (cd a).sl < 20 ∧ (cd a).dp ≤ D

theorem Cd.keep {w W : World} {p g c n D : Nat} {cd : Nat → In} (h : Cd w p g c n D cd) (k : Kp [] w W) : Cd W p g c n D cd := by
  have cg : ∀ i, W.cell? ⟨g, i, none⟩ = w.cell? ⟨g, i, none⟩ := fun i => k.cell (p := ⟨g, i, none⟩) h.hg (by simp)
  have cp : ∀ i, W.cell? ⟨p, i, none⟩ = w.cell? ⟨p, i, none⟩ := fun i => k.cell (p := ⟨p, i, none⟩) h.hp (by simp)
  exact ⟨Nat.lt_of_lt_of_le h.hp k.size, Nat.lt_of_lt_of_le h.hg k.size, (cp _).trans h.p0, (cp _).trans h.p3, fun a ha => (cg _).trans (h.k0 a ha), fun a ha => (cg _).trans (h.k1 a ha), fun a ha => (cg _).trans (h.k2 a ha), fun a ha => (cg _).trans (h.k3 a ha), fun a ha => (cg _).trans (h.k4 a ha),
    fun a ha => (cg _).trans (h.k5 a ha), fun a ha => (cg _).trans (h.k6 a ha), fun a ha => (cg _).trans (h.k7 a ha), fun a ha => (cg _).trans (h.k8 a ha), h.ok⟩

/-- A thread lies in block T, which is none of the finder's. -/
structure Tb (w W : World) (f sb : Nat) (v3 v4 v5 : Value) (T : Nat) (t : Thr) : Prop where
  far : Fg.Far w f sb v3 v4 v5 T
  lt : T < W.heap.size
  cells : W.rangeAt T 0 (tf t.pc t.tk t.x)
  free : ∀ i, W.frozen? ⟨T, i, none⟩ = false

section
variable {w W W' : World} {f p g c n D sb N pl T : Nat} {text : ByteArray} {here : List Thr} {v3 v4 v5 v4' v5' : Value} {s : Mc} {cd : Nat → In} {t : Thr}

theorem Tb.t0 (h : Tb w W f sb v3 v4 v5 T t) : W.cell? ⟨T, 0, none⟩ = some (.int .i64 t.pc) := h.cells 0 _ rfl
theorem Tb.t1 (h : Tb w W f sb v3 v4 v5 T t) : W.cell? ⟨T, 1, none⟩ = some (.int .i64 t.tk) := h.cells 1 _ rfl
theorem Tb.notes (h : Tb w W f sb v3 v4 v5 T t) : W.rangeAt T 2 (nf t.x) := fun j v hv => by
  have := h.cells (j + 2) v hv
  rwa [show 0 + (j + 2) = 2 + j by omega] at this

/-- It stands still where its block does. -/
theorem Tb.stay (h : Tb w W f sb v3 v4 v5 T t) (hb : W'.heap[T]? = W.heap[T]?) (hz : W.heap.size ≤ W'.heap.size) (h4 : v4'.ownBlock ≠ some T) (h5 : v5'.ownBlock ≠ some T) : Tb w W' f sb v3 v4' v5' T t :=
  ⟨⟨h.far.lo, h.far.nf, h.far.ns, h.far.n3, h4, h5⟩, Nat.lt_of_lt_of_le h.lt hz, fun j v hv => (World.cell?_of_block (w := W) hb).trans (h.cells j v hv), fun i => (World.frozen?_of_block (w := W) (a := ⟨T, i, none⟩) hb).trans (h.free i)⟩
theorem Tb.keep (h : Tb w W f sb v3 v4 v5 T t) (k : Kp [] W W') : Tb w W' f sb v3 v4 v5 T t := h.stay (k.block T h.lt (by simp)) k.size h.far.n4 h.far.n5

/-- Its cells written. -/
theorem Tb.pc (h : Tb w W f sb v3 v4 v5 T t) (q : Nat) : Tb w (W.setCell ⟨T, 0, none⟩ (.int .i64 (q : Int))) f sb v3 v4 v5 T ⟨q, t.tk, t.x⟩ := by
  refine ⟨h.far, by simpa [World.setCell] using h.lt, fun j v hv => ?_, fun i => by simpa using h.free i⟩
  by_cases e : j = 0
  · subst e
    have hv' : v = .int .i64 (q : Int) := by simpa using hv.symm
    subst hv'
    exact cell_same _ h.t0
  · rw [cell_other _ (fun r => by injection r with _ r2 _; omega)]
    refine h.cells j v ?_
    match j, e, hv with
    | j + 1, _, hv => exact hv
theorem Tb.take (h : Tb w W f sb v3 v4 v5 T t) (q : Nat) : Tb w (W.setCell ⟨T, 1, none⟩ (.int .i64 (q : Int))) f sb v3 v4 v5 T ⟨t.pc, q, t.x⟩ := by
  refine ⟨h.far, by simpa [World.setCell] using h.lt, fun j v hv => ?_, fun i => by simpa using h.free i⟩
  by_cases e : j = 1
  · subst e
    have hv' : v = .int .i64 (q : Int) := by simpa using hv.symm
    subst hv'
    exact cell_same _ h.t1
  · rw [cell_other _ (fun r => by injection r with _ r2 _; omega)]
    refine h.cells j v ?_
    match j, e, hv with
    | 0, _, hv => exact hv
    | j + 2, _, hv => exact hv
theorem Tb.note (h : Tb w W f sb v3 v4 v5 T t) (i : Nat) (hi : i < 20) (q : Int) : Tb w (W.setCell ⟨T, 2 + i, none⟩ (.int .i64 q)) f sb v3 v4 v5 T ⟨t.pc, t.tk, nu t.x i q⟩ := by
  have hn := note_cells (v := q) h.notes hi
  refine ⟨h.far, by simpa [World.setCell] using h.lt, fun j v hv => ?_, fun i => by simpa using h.free i⟩
  match j, hv with
  | 0, hv => rw [cell_other _ (fun r => by injection r with _ r2 _; omega)]; exact h.cells 0 v hv
  | 1, hv => rw [cell_other _ (fun r => by injection r with _ r2 _; omega)]; exact h.cells 1 v hv
  | j + 2, hv =>
    have := hn j v hv
    rwa [show 2 + j = 0 + (j + 2) by omega] at this

/-- What step leaves: the state, and the thread, if it goes on. -/
def Done (w : World) (f p sb N pl : Nat) (text : ByteArray) (here : List Thr) (v3 : Value) (T : Nat) (r : Option Thr × Mc) (W' : World) : Prop :=
  ∃ v4 v5, Fg w W' f p sb N pl text here v3 v4 v5 r.2 ∧ ∃ t, Tb w W' f sb v3 v4 v5 T t ∧ ∀ u, r.1 = some u → t = u

theorem kind_cases {k : Nat} (h : k ≤ 6) : k = 0 ∨ k = 1 ∨ k = 2 ∨ k = 3 ∨ k = 4 ∨ k = 5 ∨ k = 6 := by omega

theorem step_any (h : Fg w W f p sb N pl text here v3 v4 v5 s) (tb : Tb w W f sb v3 v4 v5 T t) (hcd : Cd w p g c n D cd) (ht : t.pc < n) (hA : s.ahead.length ≤ 100000) (hL : s.left.length ≤ 100000) :
    Calls Tryd.prog 38 #[.pointer (some ⟨f, 0, none⟩), .pointer (some ⟨T, 0, none⟩)] W fun e W' => e = .returned (.bool (stepA cd text pl t s).1.isSome) ∧ Done w f p sb N pl text here v3 T (stepA cd text pl t s) W' := by
  have hC := hcd.keep h.kp
  have hp := hcd.hp
  have hg := hcd.hg
  have hfl := h.flo
  have hsl := h.slo
  have hTl := tb.far.lo
  have hk := hC.k0 t.pc ht
  have ok := hcd.ok t.pc ht
  have gT : T ≠ g := by omega
  have pT : T ≠ p := by omega
  have gf : g ≠ f := by omega
  have same : ∀ W', Kp [] W W' → Done w f p sb N pl text here v3 T (none, s) W' := fun W' k => ⟨v4, v5, h.keep k, t, tb.keep k, fun _ e => (by cases e)⟩
  have goes : ∀ k q, Done w f p sb N pl text here v3 T (some ⟨q, t.tk, t.x⟩, s) ((W.drewN k).setCell ⟨T, 0, none⟩ (.int .i64 (q : Int))) := fun k q =>
    ⟨v4, v5, (h.keep (Kp.drewN [] W k)).other (S := [T]) (Kp.setCell _ _ (by simp)) (fun T' e => by rw [List.mem_singleton.1 e]; exact tb.far), _, (tb.keep (Kp.drewN [] W k)).pc q, fun u e => (by cases e; rfl)⟩
  rcases kind_cases ok.1 with e | e | e | e | e | e | e <;> rw [e] at hk
  · by_cases hlt : pl < text.size
    · by_cases hm : (cd t.pc).m (text[pl]).toNat = true
      · have es : stepA cd text pl t s = (none, { s with ahead := s.ahead ++ [⟨(cd t.pc).nx, (cd t.pc).dp, t.x⟩] }) := by simp [stepA, e, hlt, hm]
        rw [es]
        refine (hit_any (B := w.heap.size) h.c0 h.c1 h.c2 h.c4 (h.free 4) h.o4 h.kp.size (fun q => (h.x4 f q.symm).1 rfl) (own_ne h.o4 hg) (fun q => tb.far.n4 q.symm) hA hC.p0 tb.t0 tb.notes ht hk (hC.k1 _ ht) (hC.k4 _ ht) (hC.k5 _ ht) (hC.k6 _ ht) (hC.k7 _ ht) (hC.k8 _ ht) hlt hm).mono ?_
        rintro e' W' ⟨he, g', c', q1, q2, q3, q4⟩
        have h4 : (Value.slice (some ⟨g', 0, none⟩) (s.ahead.length + 1) c').ownBlock ≠ some T := fun q => by
          have e : g' = T := by simpa [Value.ownBlock] using q
          rcases q3 with r | r
          · exact tb.far.n4 (e ▸ r)
          · have := tb.lt; omega
        exact ⟨he, _, v5, h.hit (t := ⟨(cd t.pc).nx, (cd t.pc).dp, t.x⟩) q1 q2 q3 q4, t, tb.stay (q4.block T tb.lt tb.far.nf (fun q => tb.far.n4 q.symm)) q4.size h4 tb.far.n5, fun _ e => (by cases e)⟩
      · have hm' : (cd t.pc).m (text[pl]).toNat = false := by simpa using hm
        have es : stepA cd text pl t s = (none, s) := by simp [stepA, e, hlt, hm']
        rw [es]
        exact (step_byte_miss h.c0 h.c1 h.c2 hC.p0 tb.t0 ht hk (hC.k5 _ ht) (hC.k6 _ ht) (hC.k7 _ ht) (hC.k8 _ ht) hlt hm').mono fun e' W' ⟨he, k⟩ => ⟨he, same W' k⟩
    · have es : stepA cd text pl t s = (none, s) := by simp [stepA, e, hlt]
      rw [es]
      exact (step_byte_end h.c0 h.c1 h.c2 hC.p0 tb.t0 ht hk (decide_eq_false hlt)).mono fun e' W' ⟨he, k⟩ => ⟨he, same W' k⟩
  · by_cases h0 : pl = 0
    · have es : stepA cd text pl t s = (some ⟨(cd t.pc).nx, t.tk, t.x⟩, s) := by simp [stepA, e, h0]
      rw [es]
      refine (begin_yes h.c0 (by rw [h.c2, h0]) hC.p0 tb.t0 ht hk (tb.free 0) (hC.k1 _ ht)).mono ?_
      rintro e' W' ⟨he, k, rfl⟩
      exact ⟨he, goes k _⟩
    · have es : stepA cd text pl t s = (none, s) := by simp [stepA, e, h0]
      rw [es]
      exact (begin_no h.c0 h.c2 hC.p0 tb.t0 ht hk (by omega)).mono fun e' W' ⟨he, k⟩ => ⟨he, same W' k⟩
  · by_cases h0 : pl = text.size
    · have es : stepA cd text pl t s = (some ⟨(cd t.pc).nx, t.tk, t.x⟩, s) := by simp [stepA, e, h0]
      rw [es]
      refine (end_yes h.c0 h.c2 h.c1 hC.p0 tb.t0 ht hk (tb.free 0) (hC.k1 _ ht) h0).mono ?_
      rintro e' W' ⟨he, k, rfl⟩
      exact ⟨he, goes k _⟩
    · have es : stepA cd text pl t s = (none, s) := by simp [stepA, e, h0]
      rw [es]
      exact (end_no h.c0 h.c2 h.c1 hC.p0 tb.t0 ht hk h0).mono fun e' W' ⟨he, k⟩ => ⟨he, same W' k⟩
  · have es : stepA cd text pl t s = (some ⟨(cd t.pc).nx, t.tk, nu t.x (cd t.pc).sl pl⟩, s) := by simp [stepA, e]
    rw [es]
    refine (note_any h.c0 h.c2 hC.p0 tb.t0 ht hk (tb.free 0) (hC.k1 _ ht) (hC.k3 _ ht) ok.2.2.2.1 (tb.notes _ _ (nf_get _ _ ok.2.2.2.1)) (tb.free _) gT tb.far.nf pT).mono ?_
    rintro e' W' ⟨he, k, rfl⟩
    have k1 : Kp [T] (W.drewN k) (((W.drewN k).setCell ⟨T, 2 + (cd t.pc).sl, none⟩ (.int .i64 pl)).setCell ⟨T, 0, none⟩ (.int .i64 (cd t.pc).nx)) := (Kp.setCell _ _ (by simp)).trans (Kp.setCell _ _ (by simp))
    exact ⟨he, v4, v5, (h.keep (Kp.drewN [] W k)).other k1 (fun T' e => by rw [List.mem_singleton.1 e]; exact tb.far), _, ((tb.keep (Kp.drewN [] W k)).note _ ok.2.2.2.1 pl).pc _, fun u e => (by cases e; rfl)⟩
  · have es : stepA cd text pl t s = (some ⟨(cd t.pc).nx, t.tk, t.x⟩, { s with left := s.left ++ [⟨(cd t.pc).ot, t.tk, t.x⟩] }) := by simp [stepA, e]
    rw [es]
    refine (split_any (B := w.heap.size) h.c0 h.c5 (h.free 5) h.o5 h.kp.size (fun q => (h.x5 f q.symm).1 rfl) (own_ne h.o5 hg) (fun q => tb.far.n5 q.symm) hL hC.p0 tb.t0 tb.t1 (tb.free 0) tb.notes ht hk (hC.k1 _ ht) (hC.k2 _ ht) gf tb.far.nf).mono ?_
    rintro e' W' ⟨he, w4, rfl, g', c', q1, q2, q3, q4⟩
    have h5 : (Value.slice (some ⟨g', 0, none⟩) (s.left.length + 1) c').ownBlock ≠ some T := fun q => by
      have e : g' = T := by simpa [Value.ownBlock] using q
      rcases q3 with r | r
      · exact tb.far.n5 (e ▸ r)
      · have := tb.lt; omega
    have fg := h.push (t := ⟨(cd t.pc).ot, t.tk, t.x⟩) q1 q2 q3 q4
    have tb4 : Tb w w4 f sb v3 v4 (.slice (some ⟨g', 0, none⟩) (s.left.length + 1) c') T t := tb.stay (q4.block T tb.lt tb.far.nf (fun q => tb.far.n5 q.symm)) q4.size tb.far.n4 h5
    exact ⟨he, v4, _, fg.other (S := [T]) (Kp.setCell _ _ (by simp)) (fun T' e => by rw [List.mem_singleton.1 e]; exact tb4.far), _, tb4.pc _, fun u e => (by cases e; rfl)⟩
  · by_cases h0 : t.tk ≤ (cd t.pc).dp
    · have es : stepA cd text pl t s = (none, s) := by simp [stepA, e, h0]
      rw [es]
      exact (turn_no h.c0 hC.p0 tb.t0 ht hk tb.t1 (hC.k4 _ ht) h0).mono fun e' W' ⟨he, k⟩ => ⟨he, same W' k⟩
    · have es : stepA cd text pl t s = (some ⟨(cd t.pc).nx, (cd t.pc).dp, t.x⟩, s) := by simp [stepA, e, h0]
      rw [es]
      refine (turn_yes h.c0 hC.p0 tb.t0 ht hk (tb.free 0) (hC.k1 _ ht) tb.t1 (tb.free 1) (hC.k4 _ ht) h0 gT tb.far.nf pT).mono ?_
      rintro e' W' ⟨he, k, rfl⟩
      have k1 : Kp [T] (W.drewN k) (((W.drewN k).setCell ⟨T, 1, none⟩ (.int .i64 (cd t.pc).dp)).setCell ⟨T, 0, none⟩ (.int .i64 (cd t.pc).nx)) := (Kp.setCell _ _ (by simp)).trans (Kp.setCell _ _ (by simp))
      exact ⟨he, v4, v5, (h.keep (Kp.drewN [] W k)).other k1 (fun T' e => by rw [List.mem_singleton.1 e]; exact tb.far), _, ((tb.keep (Kp.drewN [] W k)).take _).pc _, fun u e => (by cases e; rfl)⟩
  · have es : stepA cd text pl t s = (none, { s with fd := true, best := nu t.x 1 pl }) := by simp [stepA, e]
    rw [es]
    refine (found_any h.c0 h.c2 h.c7 (fun j hj => ⟨by rw [h.best j _ (nf_get _ j hj)]; rfl, h.free _⟩) h.free hC.p0 tb.t0 tb.notes ht hk).mono ?_
    rintro e' W' ⟨he, en⟩
    exact ⟨he, v4, v5, h.ends en, t, tb.stay (en.kept.block T tb.lt (by simpa using tb.far.nf)) en.kept.size tb.far.n4 tb.far.n5, fun _ e => (by cases e)⟩
end
end Go.Proofs.YtanpiomfnbiilaaDoor
