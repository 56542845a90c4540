/- The finder: all ways from one, at a place, by the code's own loop. -/
import Derived.Test.YtanpiomfnbiilaaDoorGG
namespace Go.Proofs.YtanpiomfnbiilaaDoor
open Go.RowKit

def okT (n D : Nat) (t : Thr) : Prop := t.pc < n ∧ t.tk ≤ D
/-- All its threads are ways through the code. -/
structure OkM (n D : Nat) (s : Mc) : Prop where
  ahead : ∀ u ∈ s.ahead, okT n D u
  left : ∀ u ∈ s.left, okT n D u

section
variable {w W W' : World} {f p g c n D sb N pl T : Nat} {text : ByteArray} {here : List Thr} {v3 v4 v5 : Value} {s : Mc} {cd : Nat → In} {t : Thr}

theorem stepA_facts (hcd : ∀ a, a < n → (cd a).kind ≤ 6 ∧ (cd a).nx < n ∧ (cd a).ot < n ∧ (cd a).sl < 20 ∧ (cd a).dp ≤ D) (ht : okT n D t) (hs : OkM n D s) :
    (stepA cd text pl t s).2.sn = s.sn ∧ (stepA cd text pl t s).2.ahead.length + (stepA cd text pl t s).2.left.length ≤ s.ahead.length + s.left.length + 1 ∧ OkM n D (stepA cd text pl t s).2 ∧ ∀ u, (stepA cd text pl t s).1 = some u → okT n D u := by
  have ok := hcd t.pc ht.1
  have hT : ∀ x, okT n D ⟨(cd t.pc).nx, t.tk, x⟩ := fun x => ⟨ok.2.1, ht.2⟩
  have hT2 : ∀ x, okT n D ⟨(cd t.pc).nx, (cd t.pc).dp, x⟩ := fun x => ⟨ok.2.1, ok.2.2.2.2⟩
  have hT3 : ∀ x, okT n D ⟨(cd t.pc).ot, t.tk, x⟩ := fun x => ⟨ok.2.2.1, ht.2⟩
  have plain : s.sn = s.sn ∧ s.ahead.length + s.left.length ≤ s.ahead.length + s.left.length + 1 ∧ OkM n D s ∧ ∀ u, (none : Option Thr) = some u → okT n D u := ⟨rfl, by omega, hs, fun _ e => by cases e⟩
  have go : ∀ v, okT n D v → s.sn = s.sn ∧ s.ahead.length + s.left.length ≤ s.ahead.length + s.left.length + 1 ∧ OkM n D s ∧ ∀ u, (some v : Option Thr) = some u → okT n D u := fun v hv => ⟨rfl, by omega, hs, fun u e => by cases e; exact hv⟩
  have snoc : ∀ (l : List Thr) v, (∀ u ∈ l, okT n D u) → okT n D v → ∀ u ∈ l ++ [v], okT n D u := fun l v hl hv u hu => by
    rcases List.mem_append.1 hu with e | e
    · exact hl u e
    · rw [List.mem_singleton.1 e]; exact hv
  rcases kind_cases ok.1 with e | e | e | e | e | e | e
  · by_cases hlt : pl < text.size
    · by_cases hm : (cd t.pc).m (text[pl]).toNat = true
      · simp only [stepA, e, hlt, hm, if_true, dif_pos]
        exact ⟨trivial, by simp; omega, ⟨snoc _ _ hs.ahead (hT2 _), hs.left⟩, fun _ e => by cases e⟩
      · simp only [stepA, e, hlt, hm, if_true, dif_pos]
        simpa using plain
    · simp only [stepA, e, hlt, if_true, dif_neg, not_false_iff]
      simpa using plain
  · by_cases h0 : pl = 0
    · have es : stepA cd text pl t s = (some ⟨(cd t.pc).nx, t.tk, t.x⟩, s) := by simp [stepA, e, h0]
      rw [es]; exact go _ (hT _)
    · have es : stepA cd text pl t s = (none, s) := by simp [stepA, e, h0]
      rw [es]; exact plain
  · by_cases h0 : pl = text.size
    · have es : stepA cd text pl t s = (some ⟨(cd t.pc).nx, t.tk, t.x⟩, s) := by simp [stepA, e, h0]
      rw [es]; exact go _ (hT _)
    · have es : stepA cd text pl t s = (none, s) := by simp [stepA, e, h0]
      rw [es]; exact plain
  · have es : stepA cd text pl t s = (some ⟨(cd t.pc).nx, t.tk, nu t.x (cd t.pc).sl pl⟩, s) := by simp [stepA, e]
    rw [es]; exact go _ (hT _)
  · have es : stepA cd text pl t s = (some ⟨(cd t.pc).nx, t.tk, t.x⟩, { s with left := s.left ++ [⟨(cd t.pc).ot, t.tk, t.x⟩] }) := by simp [stepA, e]
    rw [es]
    exact ⟨rfl, by simp; omega, ⟨hs.ahead, snoc _ _ hs.left (hT3 _)⟩, fun u q => by cases q; exact hT _⟩
  · by_cases h0 : t.tk ≤ (cd t.pc).dp
    · have es : stepA cd text pl t s = (none, s) := by simp [stepA, e, h0]
      rw [es]; exact plain
    · have es : stepA cd text pl t s = (some ⟨(cd t.pc).nx, (cd t.pc).dp, t.x⟩, s) := by simp [stepA, e, h0]
      rw [es]; exact go _ (hT2 _)
  · have es : stepA cd text pl t s = (none, { s with fd := true, best := nu t.x 1 pl }) := by simp [stepA, e]
    rw [es]
    exact ⟨rfl, by simp, ⟨hs.ahead, hs.left⟩, fun _ e => by cases e⟩

theorem stepA_left : (stepA cd text pl t s).2.left.length ≤ s.left.length + 1 := by
  unfold stepA
  dsimp only
  split
  · split
    · split <;> simp
    · simp
  · split
    · split <;> simp
    · split
      · split <;> simp
      · split
        · simp
        · split
          · simp
          · split
            · split <;> simp
            · simp

theorem own_prefix {base size k gg cc : Nat} {e : TypeId} {xs ys : List Value} (h : W.ownsRow base e size (.slice (some ⟨gg, 0, none⟩) (k + 1) cc) (k + 1) (xs ++ ys)) (hx : xs.length = k * size) : W.ownsRow base e size (.slice (some ⟨gg, 0, none⟩) k cc) k xs := by
  refine ⟨hx, ?_⟩
  rcases h.2 with ⟨q, _⟩ | ⟨g', cap, cur, q1, q2, q3, q4, q5, q6, q7⟩
  · cases q
  · simp at q1
    obtain ⟨rfl, rfl⟩ := q1
    refine .inr ⟨gg, cc, cur, rfl, q2, q3, by omega, q5, q6, ?_⟩
    have e1 := congrArg (List.take (k * size)) q7
    rw [List.take_take, List.take_left' hx, Nat.min_eq_left (Nat.mul_le_mul_right _ (by omega))] at e1
    exact e1

/-- The last one of those left is taken. -/
theorem Fg.pop {l : List Thr} {tl : Thr} {g5 q5 : Nat} (h : Fg w W f p sb N pl text here v3 v4 (.slice (some ⟨g5, 0, none⟩) (l.length + 1) q5) s) (hl : s.left = l ++ [tl]) :
    Fg w (W.setCell ⟨f, 5, none⟩ (.slice (some ⟨g5, 0, none⟩) l.length q5)) f p sb N pl text here v3 v4 (.slice (some ⟨g5, 0, none⟩) l.length q5) { s with left := l } := by
  have k : Kp [f] W (W.setCell ⟨f, 5, none⟩ (.slice (some ⟨g5, 0, none⟩) l.length q5)) := Kp.setCell _ _ (by simp)
  have cf : ∀ i, i ≠ 5 → (W.setCell ⟨f, 5, none⟩ (.slice (some ⟨g5, 0, none⟩) l.length q5)).cell? ⟨f, i, none⟩ = W.cell? ⟨f, i, none⟩ := fun i hi => cell_other _ (fun e => by injection e with _ e2 _; exact hi e2.symm)
  have ob : ∀ j, j ≠ f → (W.setCell ⟨f, 5, none⟩ (.slice (some ⟨g5, 0, none⟩) l.length q5)).heap[j]? = W.heap[j]? := fun j hj => Below.heap_setCell _ _ _ _ hj
  have fz : ∀ a, (W.setCell ⟨f, 5, none⟩ (.slice (some ⟨g5, 0, none⟩) l.length q5)).frozen? a = W.frozen? a := fun a => by simp
  have x5 := h.x5 g5 rfl
  have o5 := h.o5
  rw [hl, flat_snoc, List.length_append, List.length_singleton] at o5
  have o5' := own_prefix o5 (flat_len l)
  refine ⟨Kp.own (x := f) ((h.kp.mono (by simp)).trans k) h.flo, h.flo, h.slo, h.ne, (cf _ (by omega)).trans h.c0, (cf _ (by omega)).trans h.c1, (cf _ (by omega)).trans h.c2, (cf _ (by omega)).trans h.c3, (cf _ (by omega)).trans h.c4, cell_same _ h.c5, (cf _ (by omega)).trans h.c6, (cf _ (by omega)).trans h.c7, fun j u hu => (cf _ (by omega)).trans (h.best j u hu), fun j => (fz _).trans (h.free j), Nat.lt_of_lt_of_le h.slt k.size, fun j hj => ?_,
    owns_of_block h.o3 (fun q hq _ => ob q (h.x3 q hq).1), owns_of_block h.o4 (fun q hq _ => ob q (h.x4 q hq).1), owns_of_block o5' (fun q hq _ => ob q ?_), h.x3, h.x4, h.x5⟩
  · have q := h.seen j hj
    exact ⟨(World.cell?_of_block (w := W) (ob sb h.ne)).trans q.1, (fz _).trans q.2⟩
  · have e : g5 = q := by simpa [Value.ownBlock] using hq
    rw [← e]; exact x5.1
end
end Go.Proofs.YtanpiomfnbiilaaDoor
