/- What the claim needs of: WCToPD. -/
import Derived.Test.YtonnimbcekhbgaaGreatDoorX31

/- WCToPD. -/
namespace Go.Proofs.YtonnimbcekhbgaaGreatDoor
open Go.RowKit

/-- From one way to another at the same place, by none that was seen before. -/
inductive Star (cd : Nat → In) (n D : Nat) (text : ByteArray) (pl : Nat) (S0 : Nat → Bool) : Thr → Thr → Prop
  | refl {t : Thr} (h : S0 (seenAt n D pl t) = false) : Star cd n D text pl S0 t t
  | step {t u v : Thr} (h : Star cd n D text pl S0 t u) (hv : v ∈ eps cd text pl u) (h0 : S0 (seenAt n D pl v) = false) : Star cd n D text pl S0 t v

/-- The ways that come by none that was seen before. -/
inductive WayF (cd : Nat → In) (n D : Nat) (text : ByteArray) (bg fr : Nat) (S0 : Nat → Bool) : Nat → Thr → Prop
  | start (a : Nat) (h : fr ≤ a) (h2 : a ≤ text.size) (h0 : S0 (seenAt n D a ⟨bg, 0, nz a⟩) = false) : WayF cd n D text bg fr S0 a ⟨bg, 0, nz a⟩
  | eps {pl : Nat} {t u : Thr} (h : WayF cd n D text bg fr S0 pl t) (hu : u ∈ eps cd text pl t) (h0 : S0 (seenAt n D pl u) = false) : WayF cd n D text bg fr S0 pl u
  | byte {pl : Nat} {t : Thr} (h : WayF cd n D text bg fr S0 pl t) (hb : takesB cd text pl t = true) (h0 : S0 (seenAt n D (pl + 1) (behind cd t)) = false) : WayF cd n D text bg fr S0 (pl + 1) (behind cd t)

section
variable {cd : Nat → In} {n D bg fr pl : Nat} {text : ByteArray} {t u v : Thr} {s s' s1 : Mc} {S0 : Nat → Bool}

theorem WayF.way (h : WayF cd n D text bg fr S0 pl t) : Way cd text bg fr pl t := by
  induction h with
  | start a h h2 _ => exact .start a h h2
  | eps _ hu _ ih => exact .eps ih hu
  | byte _ hb _ ih => exact .byte ih hb
theorem Way.free (h : Way cd text bg fr pl t) : WayF cd n D text bg fr noBytes pl t := by
  induction h with
  | start a h h2 => exact .start a h h2 rfl
  | eps _ hu ih => exact .eps ih hu rfl
  | byte _ hb ih => exact .byte ih hb rfl
theorem WayF.clear (h : WayF cd n D text bg fr S0 pl t) : S0 (seenAt n D pl t) = false := by
  cases h <;> assumption

theorem Star.ok (hc : Cok cd n D bg) (ht : okT n D t) (h : Star cd n D text pl S0 t u) : okT n D u := by
  induction h with
  | refl _ => exact ht
  | step _ hv _ ih => exact eps_ok hc ih hv
theorem Star.x (hc : Cok cd n D bg) (ht : okT n D t) (h : Star cd n D text pl S0 t u) : u.x 0 = t.x 0 := by
  induction h with
  | refl _ => rfl
  | step h hv _ ih => rw [eps_x hc (h.ok hc ht) hv]; exact ih
theorem Star.same (h : Star cd n D text pl S0 t u) (e : sameC v t) : ∃ q, Star cd n D text pl S0 v q ∧ sameC q u := by
  induction h with
  | refl h => exact ⟨v, .refl (by rw [seen_same e]; exact h), e⟩
  | step h hv h0 ih =>
    obtain ⟨q, h1, h2⟩ := ih
    have h2' : sameC _ q := ⟨h2.1.symm, h2.2.symm⟩
    obtain ⟨z, hz, sz⟩ := eps_same h2' hv
    exact ⟨z, .step h1 hz (by rw [seen_same sz]; exact h0), sz⟩
theorem star_eff (hc : Cok cd n D bg) {b : Int} (hi : Inv cd n D text pl S0 b s []) (ht : okT n D t) (hs : s.sn (seenAt n D pl t) = true) (h : Star cd n D text pl S0 t u) : s.sn (seenAt n D pl u) = true ∧ Eff cd text pl s u b := by
  induction h with
  | refl h =>
    refine ⟨hs, ?_⟩
    rcases hi _ ht hs with e | e
    · rw [h] at e; cases e
    · exact e.1
  | step h hv h0 ih =>
    rename_i q z
    have oq := h.ok hc ht
    have hsz : s.sn (seenAt n D pl z) = true := by
      rcases hi _ oq ih.1 with e | ⟨_, e⟩
      · have : S0 (seenAt n D pl q) = false := by cases h <;> assumption
        rw [this] at e; cases e
      · rcases e z hv with e | ⟨_, hx, _⟩
        · exact e
        · cases hx
    refine ⟨hsz, ?_⟩
    rcases hi _ (eps_ok hc oq hv) hsz with e | e
    · rw [h0] at e; cases e
    · exact e.1

/-- It is beaten by what was found further ahead. -/
def Beat (s : Mc) (t : Thr) : Prop := s.fd = true ∧ s.best 0 < t.x 0
theorem Beat.grows (h : Beat s t) (g : GrP pl s s') : Beat s' t := by
  obtain ⟨a, b, _⟩ := g.fd h.1
  exact ⟨a, Int.lt_of_le_of_lt b h.2⟩

theorem sweep_closed (hc : Cok cd n D bg) : ∀ (here : List Thr) (s s' : Mc), Sweep cd n D text pl here s s' → here.Pairwise (fun a b => a.x 0 ≤ b.x 0) → (∀ t ∈ here, okT n D t) → s.left = [] → (∀ t ∈ here, Inv cd n D text pl S0 (t.x 0) s []) →
    (∀ t ∈ here, Beat s' t ∨ ∀ u, Star cd n D text pl S0 t u → Eff cd text pl s' u (t.x 0)) ∧ GrP pl s s' ∧ (∀ x, s'.sn x = true → s.sn x = true ∨ ∃ u, okT n D u ∧ x = seenAt n D pl u) ∧
      (∃ l, s'.ahead = s.ahead ++ l ∧ l.Pairwise (fun a b => a.x 0 ≤ b.x 0) ∧ ∀ u ∈ l, okT n D u ∧ ∃ t ∈ here, u.x 0 = t.x 0) ∧ s'.left = [] ∧ ((s'.fd = s.fd ∧ s'.best = s.best) ∨ (s'.fd = true ∧ (∃ t ∈ here, s'.best 0 = t.x 0) ∧ s'.best 1 = pl))
  | [], s, s', h, _, _, hl, _ => by
    rw [show s' = s from h]
    exact ⟨fun t ht => (by cases ht), GrP.refl _ _, fun x hx => .inl hx, ⟨[], by simp, List.Pairwise.nil, fun u hu => (by cases hu)⟩, hl, .inl ⟨rfl, rfl⟩⟩
  | t :: l, s, s', h, hp, ho, hl, hi => by
    have hp1 := List.pairwise_cons.1 hp
    rcases h with ⟨hf, hlt, rfl⟩ | ⟨hcut, s1, ⟨k, g⟩, q⟩
    · refine ⟨fun z hz => ?_, GrP.refl _ _, fun x hx => .inl hx, ⟨[], by simp, List.Pairwise.nil, fun u hu => (by cases hu)⟩, hl, .inl ⟨rfl, rfl⟩⟩
      rcases List.mem_cons.1 hz with e | e
      · rw [e]; exact .inl ⟨hf, hlt⟩
      · exact .inl ⟨hf, Int.lt_of_lt_of_le hlt (hp1.1 z e)⟩
    · have ot := ho t (by simp)
      obtain ⟨a1, a2, a3, a4, ⟨l1, a5, a6⟩, a7⟩ := drive_closed hc (S0 := S0) (b := t.x 0) k (some t) s s1 g (fun z hz => by
        have e : z = t := by simpa [hl] using hz
        rw [e]; exact ⟨ot, rfl⟩) (fun hf => Int.not_lt.1 (fun hlt => hcut ⟨hf, hlt⟩)) (fun z hz hsz => by
        rcases hi t (by simp) z hz hsz with e | ⟨e1, e2⟩
        · exact .inl e
        · refine .inr ⟨e1, fun u hu => ?_⟩
          rcases e2 u hu with e | ⟨_, hx, _⟩
          · exact .inl e
          · cases hx)
      have l1e : s1.left = [] := by
        have := drive_left k (some t) s s1 g
        exact this
      obtain ⟨b1, b2, b3, ⟨l2, b5, b6, b7⟩, b8, b9⟩ := sweep_closed hc l s1 s' q hp1.2 (fun z hz => ho z (by simp [hz])) l1e (fun z hz => a1.mono (hp1.1 z hz))
      refine ⟨fun z hz => ?_, a2.trans b2, fun x hx => ?_, ⟨l1 ++ l2, by rw [b5, a5, List.append_assoc], ?_, fun u hu => ?_⟩, b8, ?_⟩
      · rcases List.mem_cons.1 hz with e | e
        · rw [e]
          exact .inr (fun u hu => (star_eff hc a1 ot (a3 t (by simp)) hu).2.grows b2)
        · exact b1 z e
      · rcases b3 x hx with e | e
        · exact a4 x e
        · exact .inr e
      · rw [List.pairwise_append]
        refine ⟨?_, b6, fun y hy z hz => ?_⟩
        · exact List.pairwise_of_forall_mem_list (fun y hy z hz => by rw [(a6 y hy).1, (a6 z hz).1]; exact Int.le_refl _)
        · obtain ⟨_, w, hw, e⟩ := b7 z hz
          rw [(a6 y hy).1, e]
          exact hp1.1 w hw
      · rcases List.mem_append.1 hu with e | e
        · exact ⟨(a6 u e).2, t, by simp, (a6 u e).1⟩
        · obtain ⟨h1, w, hw, h2⟩ := b7 u e
          exact ⟨h1, w, by simp [hw], h2⟩
      · rcases b9 with ⟨e1, e2⟩ | ⟨e1, ⟨w, hw, e2⟩, e3⟩
        · rcases a7 with ⟨f1, f2⟩ | ⟨f1, f2, f3⟩
          · exact .inl ⟨e1.trans f1, e2.trans f2⟩
          · exact .inr ⟨e1.trans f1, ⟨t, by simp, by rw [e2]; exact f2⟩, by rw [e2]; exact f3⟩
        · exact .inr ⟨e1, ⟨w, by simp [hw], e2⟩, e3⟩
where
  drive_left : ∀ (k : Nat) (o : Option Thr) (s s' : Mc), drive cd n D text pl k o s = some s' → s'.left = []
    | 0, _, _, _, h => by cases h
    | k + 1, some t, s, s', h => by
      rw [drive] at h
      split at h
      · exact drive_left k _ _ _ h
      · exact drive_left k _ _ _ h
    | k + 1, none, s, s', h => by
      rw [drive] at h
      split at h
      · rename_i hl
        cases h
        simpa using hl
      · exact drive_left k _ _ _ h

/-- A way that has come to a place by a byte. -/
def ArrP (cd : Nat → In) (n D : Nat) (text : ByteArray) (bg fr : Nat) (S0 : Nat → Bool) (pl : Nat) (t : Thr) : Prop :=
  WayF cd n D text bg fr S0 pl t ∧ ∃ pl' t', pl = pl' + 1 ∧ WayF cd n D text bg fr S0 pl' t' ∧ takesB cd text pl' t' = true ∧ t = behind cd t'

theorem way_origin (hc : Cok cd n D bg) (h : WayF cd n D text bg fr S0 pl t) : ∃ t0, (t0 = ⟨bg, 0, nz pl⟩ ∨ ArrP cd n D text bg fr S0 pl t0) ∧ okT n D t0 ∧ Star cd n D text pl S0 t0 t := by
  induction h with
  | start a h h2 h0 => exact ⟨_, .inl rfl, ⟨hc.bg, Nat.zero_le _⟩, .refl h0⟩
  | eps h hu h0 ih =>
    obtain ⟨t0, a, b, c⟩ := ih
    exact ⟨t0, a, b, .step c hu h0⟩
  | byte h hb h0 _ => exact ⟨_, .inr ⟨.byte h hb h0, _, _, rfl, h, hb, rfl⟩, behind_ok hc (h.way.ok hc), .refl h0⟩

/-- A way to the end is told of: what is found began no later, and if it began there it is no shorter. -/
def Dn (s : Mc) (e : Nat) (t : Thr) : Prop := s.fd = true ∧ s.best 0 ≤ t.x 0 ∧ (s.best 0 = t.x 0 → (e : Int) ≤ s.best 1)

structure Rinv (cd : Nat → In) (n D : Nat) (text : ByteArray) (bg fr : Nat) (S0 : Nat → Bool) (pl : Nat) (here : List Thr) (s : Mc) : Prop where
  arr : ∀ t, ArrP cd n D text bg fr S0 pl t → Beat s t ∨ ∃ u ∈ here, sameC u t ∧ u.x 0 ≤ t.x 0
  sorted : here.Pairwise (fun a b => a.x 0 ≤ b.x 0)
  ok : ∀ u ∈ here, okT n D u ∧ u.x 0 < pl
  sn : ∀ pl', pl ≤ pl' → ∀ u, okT n D u → s.sn (seenAt n D pl' u) = S0 (seenAt n D pl' u)
  dn : ∀ e t, e < pl → WayF cd n D text bg fr S0 e t → (cd t.pc).kind = 6 → Dn s e t
  lt : s.fd = true → s.best 0 < pl ∧ s.best 1 < pl
  left : s.left = []
  ahead : s.ahead = []

theorem runs_complete (hc : Cok cd n D bg) : ∀ (k pl : Nat) (here : List Thr) (s s' : Mc), Runs cd n D text bg k pl here s s' → k + pl = text.size + 1 → fr ≤ pl → Rinv cd n D text bg fr S0 pl here s →
    ∀ e t, WayF cd n D text bg fr S0 e t → (cd t.pc).kind = 6 → Dn s' e t
  | 0, pl, here, s, s', h, hk, _, hi => by
    rw [show s' = s from h]
    intro e t hw h6
    exact hi.dn e t (by have := hw.way.le; omega) hw h6
  | k + 1, pl, here, s, s', h, hk, hf, hi => by
    rcases h with ⟨hn, rfl⟩ | ⟨hn, s1, sw, rn⟩
    · -- nothing goes on, and something is found
      have hfd : s'.fd = true := by
        cases hfd : s'.fd
        · simp [hfd] at hn
        · rfl
      have hh : here = [] := by simpa [hfd] using hn
      intro e t hw h6
      by_cases he : e < pl
      · exact hi.dn e t he hw h6
      · have bt : ∀ (e : Nat) (t : Thr), WayF cd n D text bg fr S0 e t → pl ≤ e → Beat s' t := by
          intro e t hw
          induction hw with
          | start a h h2 h0 =>
            intro ha
            refine ⟨hfd, ?_⟩
            have := (hi.lt hfd).1
            show s'.best 0 < nz a 0
            simp [nz]; omega
          | eps h hu h0 ih =>
            intro ha
            obtain ⟨q1, q2⟩ := ih ha
            exact ⟨q1, by rw [eps_x hc (h.way.ok hc) hu]; exact q2⟩
          | byte h hb h0 ih =>
            rename_i p t'
            intro ha
            by_cases hp : pl ≤ p
            · exact ih hp
            · have e1 : pl = p + 1 := by omega
              rcases hi.arr _ ⟨e1 ▸ .byte h hb h0, p, t', e1, h, hb, rfl⟩ with q | ⟨u, hu, _⟩
              · exact q
              · rw [hh] at hu; cases hu
        obtain ⟨q1, q2⟩ := bt e t hw (by omega)
        exact ⟨q1, Int.le_of_lt q2, fun q3 => by omega⟩
    · -- one place
      have hst : ∀ t ∈ (if s.fd = true then here else here ++ [(⟨bg, 0, nz pl⟩ : Thr)]), okT n D t ∧ t.x 0 ≤ pl := fun t ht => by
        split at ht
        · have := hi.ok t ht
          exact ⟨this.1, by omega⟩
        · rcases List.mem_append.1 ht with e | e
          · have := hi.ok t e
            exact ⟨this.1, by omega⟩
          · rw [List.mem_singleton.1 e]
            exact ⟨⟨hc.bg, Nat.zero_le _⟩, by simp [nz]⟩
      obtain ⟨a1, a2, a3, ⟨l, a4, a5, a6⟩, a7, a8⟩ := sweep_closed hc (S0 := S0) _ s s1 sw (by
          split
          · exact hi.sorted
          · rw [List.pairwise_append]
            refine ⟨hi.sorted, by simp, fun y hy z hz => ?_⟩
            rw [List.mem_singleton.1 hz]
            have := (hi.ok y hy).2
            simp [nz]; omega) (fun t ht => (hst t ht).1) hi.left (fun t ht z hz hsz => .inl (by rw [hi.sn pl (Nat.le_refl _) z hz] at hsz; exact hsz))
      have cov : ∀ t, WayF cd n D text bg fr S0 pl t → Beat s1 t ∨ ∃ v b, sameC v t ∧ b ≤ t.x 0 ∧ Eff cd text pl s1 v b := fun t hw => by
        obtain ⟨t0, h0, o0, st⟩ := way_origin hc hw
        have xt := st.x hc o0
        have key : Beat s t0 ∨ ∃ u ∈ (if s.fd = true then here else here ++ [(⟨bg, 0, nz pl⟩ : Thr)]), sameC u t0 ∧ u.x 0 ≤ t0.x 0 := by
          rcases h0 with rfl | h0
          · cases hfd : s.fd
            · exact .inr ⟨⟨bg, 0, nz pl⟩, by simp, ⟨rfl, rfl⟩, Int.le_refl _⟩
            · refine .inl ⟨hfd, ?_⟩
              have := (hi.lt hfd).1
              show s.best 0 < nz pl 0
              simp [nz]; omega
          · rcases hi.arr t0 h0 with e | ⟨u, h1, h2⟩
            · exact .inl e
            · refine .inr ⟨u, ?_, h2⟩
              split
              · exact h1
              · exact List.mem_append_left _ h1
        rcases key with e | ⟨u, hu, su, xu⟩
        · have := e.grows a2
          exact .inl ⟨this.1, by rw [xt]; exact this.2⟩
        · rcases a1 u hu with e | e
          · exact .inl ⟨e.1, by rw [xt]; exact Int.lt_of_lt_of_le e.2 xu⟩
          · obtain ⟨v, h1, h2⟩ := st.same su
            exact .inr ⟨v, u.x 0, h2, by rw [xt]; exact xu, e v h1⟩
      refine runs_complete hc k (pl + 1) s1.ahead { s1 with ahead := [] } s' rn (by omega) (by omega) ⟨fun t ht => ?_, ?_, fun u hu => ?_, fun pl' hp u ou => ?_, fun e t he hw h6 => ?_, fun hfd => ?_, a7, rfl⟩
      · obtain ⟨_, p, t', e1, hw, hb, rfl⟩ := ht
        have e2 : p = pl := by omega
        subst e2
        rcases cov t' hw with e | ⟨v, b, sv, hb', ef⟩
        · exact .inl e
        · obtain ⟨q, h1, h2, h3⟩ := ef.1 (by rw [takes_same sv]; exact hb)
          refine .inr ⟨q, h1, ?_, Int.le_trans h3 hb'⟩
          have : sameC (behind cd v) (behind cd t') := by unfold behind; rw [sv.1]; exact ⟨rfl, rfl⟩
          exact ⟨h2.1.trans this.1, h2.2.trans this.2⟩
      · rw [a4, hi.ahead]; exact a5
      · rw [a4, hi.ahead] at hu
        obtain ⟨o, w, hw, e⟩ := a6 u hu
        have := (hst w hw).2
        exact ⟨o, by rw [e]; omega⟩
      · have hne : ∀ z, okT n D z → seenAt n D pl' u ≠ seenAt n D pl z := fun z oz e => by
          rw [seenAt_eq, seenAt_eq] at e
          have h1 := at_lt oz.1 oz.2
          have h2 := Nat.mul_le_mul_right (n * (D + 1)) (show pl + 1 ≤ pl' from hp)
          rw [Nat.add_mul, Nat.one_mul] at h2
          omega
        have e0 := hi.sn pl' (by omega) u ou
        show s1.sn _ = _
        rw [← e0]
        cases h1 : s.sn (seenAt n D pl' u)
        · cases h2 : s1.sn (seenAt n D pl' u)
          · rfl
          · rcases a3 _ h2 with e | ⟨z, oz, e⟩
            · rw [h1] at e; cases e
            · exact absurd e (hne z oz)
        · exact a2.sn _ h1
      · by_cases hp : e < pl
        · obtain ⟨d1, d2, d3⟩ := hi.dn e t hp hw h6
          obtain ⟨g1, g2, g3⟩ := a2.fd d1
          refine ⟨g1, Int.le_trans g2 d2, fun q => ?_⟩
          have q : s1.best 0 = t.x 0 := q
          have q2 : s.best 0 = t.x 0 := by omega
          have := d3 q2
          show (e : Int) ≤ s1.best 1
          rcases g3 with r | r
          · rw [r]; exact this
          · rw [r]; omega
        · have e2 : e = pl := by omega
          subst e2
          rcases cov t hw with q | ⟨v, b, sv, hb', ef⟩
          · exact ⟨q.1, Int.le_of_lt q.2, fun r => by have := q.2; have r : s1.best 0 = t.x 0 := r; omega⟩
          · obtain ⟨f1, f2, f3⟩ := ef.2 (by rw [sv.1]; exact h6)
            exact ⟨f1, Int.le_trans f2 hb', fun _ => by show (e : Int) ≤ s1.best 1; rw [f3]; exact Int.le_refl _⟩
      · have hfd : s1.fd = true := hfd
        show s1.best 0 < _ ∧ s1.best 1 < _
        rcases a8 with ⟨e1, e2⟩ | ⟨_, ⟨w, hw, e2⟩, e3⟩
        · rw [e1] at hfd
          have := hi.lt hfd
          rw [e2]
          exact ⟨by omega, by omega⟩
        · have := (hst w hw).2
          rw [e2, e3]
          exact ⟨by omega, by omega⟩
end

end Go.Proofs.YtonnimbcekhbgaaGreatDoor

/- The code of a row of bytes, perhaps bound to the text's beginning or its end: its ways. Pure. -/
namespace Go.Proofs.YtonnimbcekhbgaaGreatDoor
open Go.RowKit

/-- The code of a row of L bytes, behind the beginning (B = 1) or not, ahead of the end (E = 1) or not. -/
structure Chain (cd : Nat → In) (B E L : Nat) (ms : Nat → Nat → Bool) : Prop where
  b01 : B ≤ 1
  e01 : E ≤ 1
  fin : (cd 0).kind = 6
  endI : E = 1 → (cd 1).kind = 2 ∧ (cd 1).nx = 0
  byteI : ∀ j, j < L → (cd (E + L - j)).kind = 0 ∧ (cd (E + L - j)).nx = E + L - j - 1 ∧ (cd (E + L - j)).dp = 0 ∧ (cd (E + L - j)).m = ms j
  begI : B = 1 → (cd (E + L + 1)).kind = 1 ∧ (cd (E + L + 1)).nx = E + L

/-- The first j bytes from place a on are as the sets say. -/
def pre (ms : Nat → Nat → Bool) (text : ByteArray) (a : Nat) : Nat → Bool
  | 0 => true
  | j + 1 => pre ms text a j && (if h : a + j < text.size then ms j (text[a + j]'h).toNat else false)

/-- The row stands at place a. -/
def Stands (B E L : Nat) (ms : Nat → Nat → Bool) (text : ByteArray) (a : Nat) : Prop := (B = 0 ∨ a = 0) ∧ a + L ≤ text.size ∧ pre ms text a L = true ∧ (E = 1 → a + L = text.size)

section
variable {cd : Nat → In} {B E L pl : Nat} {ms : Nat → Nat → Bool} {text : ByteArray} {t : Thr}

/-- Where a way of a row may be. -/
def Cw (B E L : Nat) (ms : Nat → Nat → Bool) (text : ByteArray) (pl : Nat) (t : Thr) : Prop :=
  (B = 1 ∧ t.pc = E + L + 1 ∧ t.x = nz pl) ∨ (∃ a j, j ≤ L ∧ (B = 0 ∨ a = 0) ∧ pl = a + j ∧ pre ms text a j = true ∧ t.x = nz a ∧ t.pc = E + L - j) ∨
    (E = 1 ∧ t.pc = 0 ∧ pl = text.size ∧ ∃ a, (B = 0 ∨ a = 0) ∧ pl = a + L ∧ pre ms text a L = true ∧ t.x = nz a)

theorem chain_way (ch : Chain cd B E L ms) (h : Way cd text (E + L + B) 0 pl t) : Cw B E L ms text pl t := by
  have hb := ch.b01
  have he := ch.e01
  induction h with
  | start a _ _ =>
    by_cases hB : B = 1
    · exact .inl ⟨hB, by show E + L + B = _; omega, rfl⟩
    · exact .inr (.inl ⟨a, 0, Nat.zero_le _, .inl (by omega), rfl, rfl, rfl, by show E + L + B = _; omega⟩)
  | eps h hu ih =>
    rename_i p t u
    obtain ⟨c, hc, rfl⟩ := List.mem_map.1 hu
    rcases ih with ⟨h1, h2, h3⟩ | ⟨a, j, h1, h2, h3, h4, h5, h6⟩ | ⟨_, h2, _⟩
    · have k := ch.begI h1
      rw [← h2] at k
      unfold epsC at hc
      rw [if_pos k.1] at hc
      split at hc
      · rename_i hp
        simp at hc
        subst hc
        refine .inr (.inl ⟨p, 0, Nat.zero_le _, .inr hp, rfl, rfl, ?_, ?_⟩)
        · show noteE cd p t.pc t.x = _
          unfold noteE; rw [if_neg (by omega)]; exact h3
        · show (cd t.pc).nx = _
          rw [k.2]; rfl
      · cases hc
    · by_cases hj : j < L
      · have k := ch.byteI j hj
        rw [← h6] at k
        unfold epsC at hc
        rw [k.1] at hc
        simp at hc
      · have ej : j = L := by omega
        subst ej
        have e6 : t.pc = E := by omega
        by_cases hE : E = 1
        · have k := ch.endI hE
          have e1 : t.pc = 1 := by omega
          rw [← e1] at k
          unfold epsC at hc
          rw [if_neg (by omega), if_pos k.1] at hc
          split at hc
          · rename_i hp
            simp at hc
            subst hc
            refine .inr (.inr ⟨hE, k.2, hp, a, h2, h3, h4, ?_⟩)
            show noteE cd p t.pc t.x = _
            unfold noteE; rw [if_neg (by omega)]; exact h5
          · cases hc
        · have k := ch.fin
          have e0 : t.pc = 0 := by omega
          rw [← e0] at k
          unfold epsC at hc
          rw [k] at hc
          simp at hc
    · have k := ch.fin
      rw [← h2] at k
      unfold epsC at hc
      rw [k] at hc
      simp at hc
  | byte h hb' ih =>
    rename_i p t
    unfold takesB at hb'
    simp at hb'
    obtain ⟨k0, hlt, hm⟩ := hb'
    rcases ih with ⟨h1, h2, _⟩ | ⟨a, j, h1, h2, h3, h4, h5, h6⟩ | ⟨_, h2, _⟩
    · have k := ch.begI h1
      rw [← h2] at k
      omega
    · by_cases hj : j < L
      · have k := ch.byteI j hj
        rw [← h6] at k
        refine .inr (.inl ⟨a, j + 1, by omega, h2, by omega, ?_, h5, ?_⟩)
        · unfold pre
          rw [h4, dif_pos (by omega), Bool.true_and]
          rw [k.2.2.2] at hm
          subst h3
          exact hm
        · show (cd t.pc).nx = _
          rw [k.2.1]; omega
      · have e6 : t.pc = E := by omega
        by_cases hE : E = 1
        · have k := ch.endI hE
          have e1 : t.pc = 1 := by omega
          rw [← e1] at k
          omega
        · have k := ch.fin
          have e0 : t.pc = 0 := by omega
          rw [← e0] at k
          omega
    · have k := ch.fin
      rw [← h2] at k
      omega

theorem way_pre (ch : Chain cd B E L ms) {a tk : Nat} (h : Way cd text (E + L + B) 0 a ⟨E + L, tk, nz a⟩) : ∀ j, j ≤ L → pre ms text a j = true → ∃ tk, Way cd text (E + L + B) 0 (a + j) ⟨E + L - j, tk, nz a⟩
  | 0, _, _ => ⟨tk, h⟩
  | j + 1, hj, hp => by
    unfold pre at hp
    simp only [Bool.and_eq_true] at hp
    obtain ⟨tk', hw⟩ := way_pre ch h j (by omega) hp.1
    have k := ch.byteI j (by omega)
    have h2 := hp.2
    split at h2
    · rename_i hlt
      have tb : takesB cd text (a + j) ⟨E + L - j, tk', nz a⟩ = true := by
        unfold takesB
        rw [dif_pos hlt]
        show (decide ((cd (E + L - j)).kind = 0) && (cd (E + L - j)).m _) = true
        rw [k.1, k.2.2.2]
        simpa using h2
      have := Way.byte hw tb
      refine ⟨(cd (E + L - j)).dp, ?_⟩
      have e : behind cd ⟨E + L - j, tk', nz a⟩ = ⟨E + L - (j + 1), (cd (E + L - j)).dp, nz a⟩ := by
        unfold behind
        show (⟨(cd (E + L - j)).nx, _, _⟩ : Thr) = _
        rw [k.2.1, show E + L - j - 1 = E + L - (j + 1) by omega]
      rw [e] at this
      exact this
    · cases h2

theorem chain_stands (ch : Chain cd B E L ms) {a : Nat} (h : Stands B E L ms text a) : ∃ t, Way cd text (E + L + B) 0 (a + L) t ∧ (cd t.pc).kind = 6 ∧ t.x = nz a := by
  obtain ⟨h1, h2, h3, h4⟩ := h
  have hb := ch.b01
  have he := ch.e01
  have w0 : ∃ tk, Way cd text (E + L + B) 0 a ⟨E + L, tk, nz a⟩ := by
    by_cases hB : B = 1
    · have ha : a = 0 := by omega
      have k := ch.begI hB
      have s0 := Way.start (cd := cd) (text := text) (bg := E + L + B) (fr := 0) a (Nat.zero_le _) (by omega)
      refine ⟨0, s0.eps (List.mem_map.2 ⟨(E + L, 0), ?_, ?_⟩)⟩
      · show (E + L, 0) ∈ epsC cd text a (E + L + B) 0
        unfold epsC
        rw [hB, if_pos k.1, if_pos ha, k.2]
        simp
      · show (⟨E + L, 0, noteE cd a (E + L + B) (nz a)⟩ : Thr) = _
        unfold noteE
        rw [hB, if_neg (by omega)]
    · have e : E + L + B = E + L := by omega
      refine ⟨0, ?_⟩
      have s0 := Way.start (cd := cd) (text := text) (bg := E + L + B) (fr := 0) a (Nat.zero_le _) (by omega)
      rw [e] at s0 ⊢
      exact s0
  obtain ⟨tk, w0⟩ := w0
  obtain ⟨tk', w1⟩ := way_pre ch w0 L (Nat.le_refl _) h3
  rw [show E + L - L = E by omega] at w1
  by_cases hE : E = 1
  · have k := ch.endI hE
    refine ⟨⟨0, tk', nz a⟩, w1.eps (List.mem_map.2 ⟨(0, tk'), ?_, ?_⟩), ch.fin, rfl⟩
    · show (0, tk') ∈ epsC cd text (a + L) E tk'
      unfold epsC
      rw [hE, if_neg (by omega), if_pos k.1, if_pos (h4 hE), k.2]
      simp
    · show (⟨0, tk', noteE cd (a + L) E (nz a)⟩ : Thr) = _
      unfold noteE
      rw [hE, if_neg (by omega)]
  · have e0 : E = 0 := by omega
    rw [e0] at w1
    subst e0
    exact ⟨_, w1, ch.fin, rfl⟩

theorem chain_found (ch : Chain cd B E L ms) (h : Way cd text (E + L + B) 0 pl t) (h6 : (cd t.pc).kind = 6) : ∃ a, Stands B E L ms text a ∧ pl = a + L ∧ t.x = nz a := by
  have hle := h.le
  have he := ch.e01
  rcases chain_way ch h with ⟨h1, h2, h3⟩ | ⟨a, j, h1, h2, h3, h4, h5, e6⟩ | ⟨hE, h2, hp, a, q1, q2, q3, q4⟩
  · have k := ch.begI h1
    rw [← h2] at k
    omega
  · by_cases hj : j < L
    · have k := ch.byteI j hj
      rw [← e6] at k
      omega
    · have ej : j = L := by omega
      subst ej
      by_cases hE : E = 1
      · have k := ch.endI hE
        have e1 : t.pc = 1 := by omega
        rw [← e1] at k
        omega
      · exact ⟨a, ⟨h2, by omega, h4, fun q => absurd q hE⟩, h3, h5⟩
  · exact ⟨a, ⟨q1, by omega, q3, fun _ => by omega⟩, q2, q4⟩

end
end Go.Proofs.YtonnimbcekhbgaaGreatDoor
