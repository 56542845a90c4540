/- What the claim needs of: WAToWB. -/
import Derived.Test.YtonnimbcekhbgaaGreatDoorX30

/- WAToWB. -/
namespace Go.Proofs.YtonnimbcekhbgaaGreatDoor
open Go.RowKit

/-- Where a way may go on at the same place. -/
def epsC (cd : Nat → In) (text : ByteArray) (pl pc tk : Nat) : List (Nat × Nat) :=
  if (cd pc).kind = 1 then (if pl = 0 then [((cd pc).nx, tk)] else [])
  else if (cd pc).kind = 2 then (if pl = text.size then [((cd pc).nx, tk)] else [])
  else if (cd pc).kind = 3 then [((cd pc).nx, tk)]
  else if (cd pc).kind = 4 then [((cd pc).nx, tk), ((cd pc).ot, tk)]
  else if (cd pc).kind = 5 then (if tk ≤ (cd pc).dp then [] else [((cd pc).nx, (cd pc).dp)])
  else []
/-- What is noted. -/
def noteE (cd : Nat → In) (pl pc : Nat) (x : Nat → Int) : Nat → Int := if (cd pc).kind = 3 then nu x (cd pc).sl pl else x
def eps (cd : Nat → In) (text : ByteArray) (pl : Nat) (t : Thr) : List Thr := (epsC cd text pl t.pc t.tk).map fun c => ⟨c.1, c.2, noteE cd pl t.pc t.x⟩
/-- Does it take the byte here? -/
def takesB (cd : Nat → In) (text : ByteArray) (pl : Nat) (t : Thr) : Bool :=
  decide ((cd t.pc).kind = 0) && (if h : pl < text.size then (cd t.pc).m (text[pl]'h).toNat else false)
/-- Where it is then. -/
def behind (cd : Nat → In) (t : Thr) : Thr := ⟨(cd t.pc).nx, (cd t.pc).dp, t.x⟩

/-- One instruction, told by these. -/
theorem stepA_eq {cd : Nat → In} {text : ByteArray} {pl : Nat} {t : Thr} (hk : (cd t.pc).kind ≤ 6) (s : Mc) :
    stepA cd text pl t s = ((eps cd text pl t).head?, { s with ahead := s.ahead ++ (if takesB cd text pl t = true then [behind cd t] else []), left := s.left ++ (eps cd text pl t).tail, fd := (s.fd || decide ((cd t.pc).kind = 6)), best := if (cd t.pc).kind = 6 then nu t.x 1 pl else s.best }) := by
  rcases kind_cases hk with e | e | e | e | e | e | e
  · by_cases hlt : pl < text.size
    · by_cases hm : (cd t.pc).m (text[pl]).toNat = true
      · simp [stepA, eps, epsC, noteE, takesB, behind, e, hlt, hm]
      · simp [stepA, eps, epsC, noteE, takesB, e, hlt, hm]
    · simp [stepA, eps, epsC, noteE, takesB, e, hlt]
  · by_cases h0 : pl = 0 <;> simp [stepA, eps, epsC, noteE, takesB, e, h0]
  · by_cases h0 : pl = text.size <;> simp [stepA, eps, epsC, noteE, takesB, e, h0]
  · simp [stepA, eps, epsC, noteE, takesB, e]
  · simp [stepA, eps, epsC, noteE, takesB, e]
  · by_cases h0 : t.tk ≤ (cd t.pc).dp <;> simp [stepA, eps, epsC, noteE, takesB, e, h0]
  · simp [stepA, eps, epsC, noteE, takesB, e]

/-- The ways from the places fr on. -/
inductive Way (cd : Nat → In) (text : ByteArray) (bg fr : Nat) : Nat → Thr → Prop
  | start (a : Nat) (h : fr ≤ a) (h2 : a ≤ text.size) : Way cd text bg fr a ⟨bg, 0, nz a⟩
  | eps {pl : Nat} {t u : Thr} (h : Way cd text bg fr pl t) (hu : u ∈ eps cd text pl t) : Way cd text bg fr pl u
  | byte {pl : Nat} {t : Thr} (h : Way cd text bg fr pl t) (hb : takesB cd text pl t = true) : Way cd text bg fr (pl + 1) (behind cd t)

/-- A code that is well made. -/
structure Cok (cd : Nat → In) (n D bg : Nat) : Prop where
  ok : ∀ a, a < n → (cd a).kind ≤ 6 ∧ (cd a).nx < n ∧ (cd a).ot < n ∧ (cd a).sl < 20 ∧ (cd a).dp ≤ D
  sl : ∀ a, a < n → (cd a).kind = 3 → 2 ≤ (cd a).sl
  bg : bg < n

section
variable {cd : Nat → In} {n D bg fr pl : Nat} {text : ByteArray} {t u : Thr} {s s' : Mc}

theorem epsC_ok (hc : Cok cd n D bg) {pc tk : Nat} (h1 : pc < n) (h2 : tk ≤ D) {c : Nat × Nat} (hu : c ∈ epsC cd text pl pc tk) : c.1 < n ∧ c.2 ≤ D := by
  have ok := hc.ok pc h1
  unfold epsC at hu
  repeat' split at hu
  all_goals simp at hu
  all_goals first
    | (subst hu; exact ⟨ok.2.1, by first | exact h2 | exact ok.2.2.2.2⟩)
    | (rcases hu with rfl | rfl
       · exact ⟨ok.2.1, h2⟩
       · exact ⟨ok.2.2.1, h2⟩)
theorem eps_ok (hc : Cok cd n D bg) (ht : okT n D t) (hu : u ∈ eps cd text pl t) : okT n D u := by
  obtain ⟨c, h1, rfl⟩ := List.mem_map.1 hu
  exact epsC_ok hc ht.1 ht.2 h1
theorem eps_x (hc : Cok cd n D bg) (ht : okT n D t) (hu : u ∈ eps cd text pl t) : u.x 0 = t.x 0 := by
  have sl := hc.sl t.pc ht.1
  obtain ⟨c, _, rfl⟩ := List.mem_map.1 hu
  show noteE cd pl t.pc t.x 0 = _
  unfold noteE
  split
  · have := sl (by assumption)
    unfold nu; rw [if_neg (by omega)]
  · rfl
theorem behind_ok (hc : Cok cd n D bg) (ht : okT n D t) : okT n D (behind cd t) := ⟨(hc.ok t.pc ht.1).2.1, (hc.ok t.pc ht.1).2.2.2.2⟩

/-- The same instruction, with the same turns. -/
def sameC (t u : Thr) : Prop := t.pc = u.pc ∧ t.tk = u.tk
theorem eps_same {v : Thr} (h : sameC t v) (hu : u ∈ eps cd text pl t) : ∃ q ∈ eps cd text pl v, sameC q u := by
  obtain ⟨c, h1, rfl⟩ := List.mem_map.1 hu
  rw [h.1, h.2] at h1
  exact ⟨_, List.mem_map.2 ⟨c, h1, rfl⟩, rfl, rfl⟩
theorem takes_same {v : Thr} (h : sameC t v) : takesB cd text pl t = takesB cd text pl v := by
  unfold takesB; rw [h.1]
theorem seen_same {v : Thr} (h : sameC t v) : seenAt n D pl t = seenAt n D pl v := by
  unfold seenAt; rw [h.1, h.2]
theorem same_of_seen {v : Thr} (ht : okT n D t) (hv : okT n D v) (h : seenAt n D pl t = seenAt n D pl v) : sameC t v := by
  rw [seenAt_eq, seenAt_eq] at h
  have h1 : t.pc * (D + 1) + t.tk = v.pc * (D + 1) + v.tk := by omega
  have e1 : t.pc = v.pc := by
    have a1 : (t.pc * (D + 1) + t.tk) / (D + 1) = t.pc := by
      rw [Nat.mul_comm, Nat.mul_add_div (by omega), Nat.div_eq_of_lt (by have := ht.2; omega)]; rfl
    have a2 : (v.pc * (D + 1) + v.tk) / (D + 1) = v.pc := by
      rw [Nat.mul_comm, Nat.mul_add_div (by omega), Nat.div_eq_of_lt (by have := hv.2; omega)]; rfl
    rw [← a1, ← a2, h1]
  refine ⟨e1, ?_⟩
  rw [e1] at h1
  omega
theorem Way.ok (hc : Cok cd n D bg) (h : Way cd text bg fr pl t) : okT n D t := by
  induction h with
  | start a _ _ => exact ⟨hc.bg, Nat.zero_le _⟩
  | eps _ hu ih => exact eps_ok hc ih hu
  | byte _ _ ih => exact behind_ok hc ih
theorem Way.le (h : Way cd text bg fr pl t) : pl ≤ text.size := by
  induction h with
  | start a _ h2 => exact h2
  | eps _ _ ih => exact ih
  | byte _ hb _ =>
    unfold takesB at hb
    simp at hb
    obtain ⟨h, _⟩ := hb.2
    omega
theorem Way.x_le (hc : Cok cd n D bg) (h : Way cd text bg fr pl t) : t.x 0 ≤ pl := by
  induction h with
  | start a _ _ => simp [nz]
  | eps h hu ih => rw [eps_x hc (h.ok hc) hu]; exact ih
  | byte _ _ ih => show _ ≤ ((_ + 1 : Nat) : Int); unfold behind; dsimp only; omega
theorem Way.x_ge (hc : Cok cd n D bg) (h : Way cd text bg fr pl t) : fr ≤ t.x 0 := by
  induction h with
  | start a h _ => simp [nz]; omega
  | eps h hu ih => rw [eps_x hc (h.ok hc) hu]; exact ih
  | byte _ _ ih => exact ih
end
end Go.Proofs.YtonnimbcekhbgaaGreatDoor

/- What the machine finds is a way; and it misses none: one place. Pure. -/
namespace Go.Proofs.YtonnimbcekhbgaaGreatDoor
open Go.RowKit

section
variable {cd : Nat → In} {n D bg fr pl : Nat} {text : ByteArray} {t u v : Thr} {s s' s1 : Mc}

/-- What is found is a way that has come to the end. -/
def Vd (cd : Nat → In) (text : ByteArray) (bg fr : Nat) (s : Mc) : Prop := s.fd = true → ∃ e t, Way cd text bg fr e t ∧ (cd t.pc).kind = 6 ∧ s.best = nu t.x 1 e

theorem last_split {α : Type} {l : List α} {q : α} (h : l.getLast? = some q) : l = l.dropLast ++ [q] := by
  rcases List.eq_nil_or_concat l with rfl | ⟨m, z, rfl⟩
  · cases h
  · rw [List.concat_eq_append] at h ⊢
    simp at h
    subst h
    simp

theorem eps_split (t : Thr) : ∀ u, u ∈ eps cd text pl t ↔ u ∈ (eps cd text pl t).head?.toList ++ (eps cd text pl t).tail := by
  intro u
  cases eps cd text pl t <;> simp

theorem drive_sound (hc : Cok cd n D bg) : ∀ (k : Nat) (o : Option Thr) (s s' : Mc), drive cd n D text pl k o s = some s' → (∀ t ∈ o.toList ++ s.left, Way cd text bg fr pl t) → (∀ t ∈ s.ahead, Way cd text bg fr (pl + 1) t) → Vd cd text bg fr s →
    (∀ t ∈ s'.ahead, Way cd text bg fr (pl + 1) t) ∧ Vd cd text bg fr s' ∧ s'.left = []
  | 0, _, _, _, h, _, _, _ => by cases h
  | k + 1, some t, s, s', h, hp, ha, hv => by
    have wt := hp t (by simp)
    rw [drive] at h
    split at h
    · exact drive_sound hc k none s s' h (fun q hq => hp q (by simp at hq; simp [hq])) ha hv
    · rw [stepA_eq (hc.ok _ (wt.ok hc).1).1] at h
      refine drive_sound hc k _ _ s' h (fun q hq => ?_) (fun q hq => ?_) (fun hf => ?_)
      · have hq' : q ∈ s.left ∨ q ∈ eps cd text pl t := by
          rcases List.mem_append.1 hq with e | e
          · exact .inr ((eps_split t q).2 (List.mem_append_left _ e))
          · rcases List.mem_append.1 e with e | e
            · exact .inl e
            · exact .inr ((eps_split t q).2 (List.mem_append_right _ e))
        rcases hq' with e | e
        · exact hp q (by simp [e])
        · exact .eps wt e
      · rcases List.mem_append.1 hq with e | e
        · exact ha q e
        · split at e
          · rw [List.mem_singleton.1 e]; exact .byte wt (by assumption)
          · cases e
      · by_cases h6 : (cd t.pc).kind = 6
        · exact ⟨pl, t, wt, h6, by simp [h6]⟩
        · obtain ⟨e, q, h1, h2, h3⟩ := hv (by simpa [h6] using hf)
          exact ⟨e, q, h1, h2, by simp [h6]; exact h3⟩
  | k + 1, none, s, s', h, hp, ha, hv => by
    rw [drive] at h
    split at h
    · rename_i hl
      cases h
      exact ⟨ha, hv, by simpa using hl⟩
    · rename_i q hl
      have hd : ∀ z, z ∈ s.left.dropLast → z ∈ s.left := fun z hz => List.dropLast_subset _ hz
      exact drive_sound hc k (some q) { s with left := s.left.dropLast } s' h (fun z hz => by
        have hz' : z = q ∨ z ∈ s.left.dropLast := by simpa using hz
        rcases hz' with e | e
        · rw [e]; exact hp q (by simp [List.mem_of_getLast? hl])
        · exact hp z (by simp [hd z e])) ha hv

theorem sweep_sound (hc : Cok cd n D bg) : ∀ (here : List Thr) (s s' : Mc), Sweep cd n D text pl here s s' → (∀ t ∈ here, Way cd text bg fr pl t) → s.left = [] → (∀ t ∈ s.ahead, Way cd text bg fr (pl + 1) t) → Vd cd text bg fr s →
    (∀ t ∈ s'.ahead, Way cd text bg fr (pl + 1) t) ∧ Vd cd text bg fr s' ∧ s'.left = []
  | [], s, s', h, _, hl, ha, hv => by rw [show s' = s from h]; exact ⟨ha, hv, hl⟩
  | t :: l, s, s', h, hh, hl, ha, hv => by
    rcases h with ⟨_, _, rfl⟩ | ⟨_, s1, ⟨k, g⟩, q⟩
    · exact ⟨ha, hv, hl⟩
    · obtain ⟨a1, a2, a3⟩ := drive_sound hc k (some t) s s1 g (fun z hz => by
        have e : z = t := by simpa [hl] using hz
        rw [e]; exact hh t (by simp)) ha hv
      exact sweep_sound hc l s1 s' q (fun z hz => hh z (by simp [hz])) a3 a1 a2

theorem runs_sound (hc : Cok cd n D bg) : ∀ (k pl : Nat) (here : List Thr) (s s' : Mc), Runs cd n D text bg k pl here s s' → k + pl = text.size + 1 → fr ≤ pl → (∀ t ∈ here, Way cd text bg fr pl t) → s.left = [] → s.ahead = [] → Vd cd text bg fr s → Vd cd text bg fr s'
  | 0, pl, here, s, s', h, _, _, _, _, _, hv => by rw [show s' = s from h]; exact hv
  | k + 1, pl, here, s, s', h, hk, hf, hh, hl, ha, hv => by
    rcases h with ⟨_, rfl⟩ | ⟨_, s1, sw, rn⟩
    · exact hv
    · obtain ⟨a1, a2, a3⟩ := sweep_sound (fr := fr) hc _ s s1 sw (fun z hz => by
        split at hz
        · exact hh z hz
        · rcases List.mem_append.1 hz with e | e
          · exact hh z e
          · rw [List.mem_singleton.1 e]; exact .start pl hf (by omega)) hl (by rw [ha]; intro z hz; cases hz) hv
      exact runs_sound hc k (pl + 1) s1.ahead { s1 with ahead := [] } s' rn (by omega) (by omega) a1 a3 rfl a2

/-- From one state of the machine to a later one at the same place. -/
structure GrP (pl : Nat) (s s' : Mc) : Prop where
  ahead : ∀ u ∈ s.ahead, u ∈ s'.ahead
  fd : s.fd = true → s'.fd = true ∧ s'.best 0 ≤ s.best 0 ∧ (s'.best 1 = s.best 1 ∨ s'.best 1 = pl)
  sn : ∀ x, s.sn x = true → s'.sn x = true
theorem GrP.refl (pl : Nat) (s : Mc) : GrP pl s s := ⟨fun _ h => h, fun h => ⟨h, Int.le_refl _, .inl rfl⟩, fun _ h => h⟩
theorem GrP.trans {a b c : Mc} (h : GrP pl a b) (k : GrP pl b c) : GrP pl a c := by
  refine ⟨fun u hu => k.ahead u (h.ahead u hu), fun hf => ?_, fun x hx => k.sn x (h.sn x hx)⟩
  obtain ⟨a1, a2, a3⟩ := h.fd hf
  obtain ⟨b1, b2, b3⟩ := k.fd a1
  refine ⟨b1, Int.le_trans b2 a2, ?_⟩
  rcases b3 with e | e
  · rw [e]; exact a3
  · exact .inr e

/-- What an instruction does has been done, by a way that began at b or ahead of it. -/
def Eff (cd : Nat → In) (text : ByteArray) (pl : Nat) (s : Mc) (t : Thr) (b : Int) : Prop :=
  (takesB cd text pl t = true → ∃ v ∈ s.ahead, sameC v (behind cd t) ∧ v.x 0 ≤ b) ∧ ((cd t.pc).kind = 6 → s.fd = true ∧ s.best 0 ≤ b ∧ s.best 1 = pl)
theorem Eff.grows {b : Int} (h : Eff cd text pl s t b) (g : GrP pl s s') : Eff cd text pl s' t b := by
  refine ⟨fun ht => ?_, fun hk => ?_⟩
  · obtain ⟨v, h1, h2⟩ := h.1 ht
    exact ⟨v, g.ahead v h1, h2⟩
  · obtain ⟨a1, a2, a3⟩ := h.2 hk
    obtain ⟨b1, b2, b3⟩ := g.fd a1
    refine ⟨b1, Int.le_trans b2 a2, ?_⟩
    rcases b3 with e | e
    · rw [e]; exact a3
    · exact e
theorem Eff.mono {b c : Int} (h : Eff cd text pl s t b) (hb : b ≤ c) : Eff cd text pl s t c :=
  ⟨fun ht => by obtain ⟨v, h1, h2, h3⟩ := h.1 ht; exact ⟨v, h1, h2, Int.le_trans h3 hb⟩, fun hk => ⟨(h.2 hk).1, Int.le_trans (h.2 hk).2.1 hb, (h.2 hk).2.2⟩⟩
theorem Eff.same {b : Int} (h : Eff cd text pl s t b) (e : sameC u t) : Eff cd text pl s u b := by
  refine ⟨fun ht => ?_, fun hk => h.2 (by rw [← e.1]; exact hk)⟩
  obtain ⟨v, h1, h2, h3⟩ := h.1 (by rw [← takes_same e]; exact ht)
  refine ⟨v, h1, ?_, h3⟩
  have : behind cd u = ⟨(cd t.pc).nx, (cd t.pc).dp, u.x⟩ := by unfold behind; rw [e.1]
  rw [this]; exact h2

/-- All that is seen was done, and where it goes on is seen or waits. S0: what was seen before. -/
def Inv (cd : Nat → In) (n D : Nat) (text : ByteArray) (pl : Nat) (S0 : Nat → Bool) (b : Int) (s : Mc) (pend : List Thr) : Prop :=
  ∀ t, okT n D t → s.sn (seenAt n D pl t) = true → S0 (seenAt n D pl t) = true ∨ (Eff cd text pl s t b ∧ ∀ u ∈ eps cd text pl t, s.sn (seenAt n D pl u) = true ∨ ∃ v ∈ pend, sameC v u)

theorem Inv.mono {S0 : Nat → Bool} {b c : Int} {pend : List Thr} (h : Inv cd n D text pl S0 b s pend) (hb : b ≤ c) : Inv cd n D text pl S0 c s pend := fun t ht hs => by
  rcases h t ht hs with e | ⟨e1, e2⟩
  · exact .inl e
  · exact .inr ⟨e1.mono hb, e2⟩

theorem drive_closed (hc : Cok cd n D bg) {S0 : Nat → Bool} {b : Int} : ∀ (k : Nat) (o : Option Thr) (s s' : Mc), drive cd n D text pl k o s = some s' → (∀ t ∈ o.toList ++ s.left, okT n D t ∧ t.x 0 = b) → (s.fd = true → b ≤ s.best 0) → Inv cd n D text pl S0 b s (o.toList ++ s.left) →
    Inv cd n D text pl S0 b s' [] ∧ GrP pl s s' ∧ (∀ t ∈ o.toList ++ s.left, s'.sn (seenAt n D pl t) = true) ∧ (∀ x, s'.sn x = true → s.sn x = true ∨ ∃ u, okT n D u ∧ x = seenAt n D pl u) ∧
      (∃ l, s'.ahead = s.ahead ++ l ∧ ∀ u ∈ l, u.x 0 = b ∧ okT n D u) ∧ ((s'.fd = s.fd ∧ s'.best = s.best) ∨ (s'.fd = true ∧ s'.best 0 = b ∧ s'.best 1 = pl))
  | 0, _, _, _, h, _, _, _ => by cases h
  | k + 1, some t, s, s', h, hp, hb, hi => by
    obtain ⟨ot, xt⟩ := hp t (by simp)
    rw [drive] at h
    split at h
    · rename_i hs
      obtain ⟨a1, a2, a3, a4⟩ := drive_closed hc (S0 := S0) (b := b) k none s s' h (fun q hq => hp q (by simp at hq; simp [hq])) hb (fun z hz hsz => by
        rcases hi z hz hsz with e | ⟨e1, e2⟩
        · exact .inl e
        · refine .inr ⟨e1, fun u hu => ?_⟩
          rcases e2 u hu with e | ⟨v, hv, sv⟩
          · exact .inl e
          · have hv' : v = t ∨ v ∈ s.left := by simpa using hv
            rcases hv' with rfl | e
            · exact .inl (by rw [← seen_same sv]; exact hs)
            · exact .inr ⟨v, by simpa using e, sv⟩)
      refine ⟨a1, a2, fun q hq => ?_, a4⟩
      have hq' : q = t ∨ q ∈ s.left := by simpa using hq
      rcases hq' with rfl | e
      · exact a2.sn _ hs
      · exact a3 q (by simpa using e)
    · rename_i hs
      rw [stepA_eq (hc.ok _ ot.1).1] at h
      obtain ⟨s1, hs1⟩ : ∃ s1 : Mc, s1 = { { s with sn := more s.sn (seenAt n D pl t) } with ahead := s.ahead ++ (if takesB cd text pl t = true then [behind cd t] else []), left := s.left ++ (eps cd text pl t).tail, fd := (s.fd || decide ((cd t.pc).kind = 6)), best := if (cd t.pc).kind = 6 then nu t.x 1 pl else s.best } := ⟨_, rfl⟩
      have h1 : drive cd n D text pl k (eps cd text pl t).head? s1 = some s' := by rw [hs1]; exact h
      have e_sn : s1.sn = more s.sn (seenAt n D pl t) := by rw [hs1]
      have e_ah : s1.ahead = s.ahead ++ (if takesB cd text pl t = true then [behind cd t] else []) := by rw [hs1]
      have e_le : s1.left = s.left ++ (eps cd text pl t).tail := by rw [hs1]
      have e_fd : s1.fd = (s.fd || decide ((cd t.pc).kind = 6)) := by rw [hs1]
      have e_be : s1.best = if (cd t.pc).kind = 6 then nu t.x 1 pl else s.best := by rw [hs1]
      have b0 : (nu t.x 1 pl) 0 = b := by unfold nu; rw [if_neg (by omega)]; exact xt
      have b1 : (nu t.x 1 pl) 1 = pl := by unfold nu; rw [if_pos rfl]
      have mself : s1.sn (seenAt n D pl t) = true := by rw [e_sn]; simp [more]
      have mold : ∀ x, s.sn x = true → s1.sn x = true := fun x hx => by rw [e_sn]; simp [more, hx]
      have pmem : ∀ q, q ∈ (eps cd text pl t).head?.toList ++ s1.left ↔ q ∈ s.left ∨ q ∈ eps cd text pl t := fun q => by
        rw [e_le, eps_split t q]
        simp only [List.mem_append]
        constructor
        · rintro (h | h | h)
          · exact .inr (.inl h)
          · exact .inl h
          · exact .inr (.inr h)
        · rintro (h | h | h)
          · exact .inr (.inl h)
          · exact .inl h
          · exact .inr (.inr h)
      have g1 : GrP pl s s1 := by
        refine ⟨fun u hu => by rw [e_ah]; exact List.mem_append_left _ hu, fun hf => ?_, mold⟩
        by_cases h6 : (cd t.pc).kind = 6
        · rw [e_fd, e_be, if_pos h6, b0, b1]
          exact ⟨by simp [h6], hb hf, .inr rfl⟩
        · rw [e_fd, e_be, if_neg h6]
          exact ⟨by simp [hf], Int.le_refl _, .inl rfl⟩
      obtain ⟨a1, a2, a3, a4, ⟨l, a5, a6⟩, a7⟩ := drive_closed hc (S0 := S0) (b := b) k _ s1 s' h1 (fun q hq => by
          rcases (pmem q).1 hq with e | e
          · exact hp q (by simp [e])
          · exact ⟨eps_ok hc ot e, by rw [eps_x hc ot e]; exact xt⟩) (fun hf => by
          by_cases h6 : (cd t.pc).kind = 6
          · rw [e_be, if_pos h6, b0]; exact Int.le_refl _
          · rw [e_be, if_neg h6]
            exact hb (by simpa [e_fd, h6] using hf)) (fun z hz hsz => by
          by_cases hzt : seenAt n D pl z = seenAt n D pl t
          · have sz := same_of_seen hz ot hzt
            refine .inr ⟨?_, fun u hu => ?_⟩
            · refine Eff.same (t := t) ⟨fun htk => ?_, fun h6 => ?_⟩ sz
              · exact ⟨behind cd t, by rw [e_ah, if_pos htk]; simp, ⟨rfl, rfl⟩, by show t.x 0 ≤ b; rw [xt]; exact Int.le_refl _⟩
              · rw [e_fd, e_be, if_pos h6, b0, b1]
                exact ⟨by simp [h6], Int.le_refl _, rfl⟩
            · obtain ⟨q, hq, sq⟩ := eps_same sz hu
              exact .inr ⟨q, (pmem q).2 (.inr hq), sq⟩
          · have hsz' : s.sn (seenAt n D pl z) = true := by
              rw [e_sn] at hsz
              have : (seenAt n D pl z == seenAt n D pl t) = false := by rw [beq_eq_false_iff_ne]; exact hzt
              simpa [more, this] using hsz
            rcases hi z hz hsz' with e | ⟨e1, e2⟩
            · exact .inl e
            · refine .inr ⟨e1.grows g1, fun u hu => ?_⟩
              rcases e2 u hu with e | ⟨v, hv, sv⟩
              · exact .inl (mold _ e)
              · have hv' : v = t ∨ v ∈ s.left := by simpa using hv
                rcases hv' with rfl | e
                · exact .inl (by rw [← seen_same sv]; exact mself)
                · exact .inr ⟨v, (pmem v).2 (.inl e), sv⟩)
      refine ⟨a1, g1.trans a2, fun q hq => ?_, fun x hx => ?_, ?_, ?_⟩
      · have hq' : q = t ∨ q ∈ s.left := by simpa using hq
        rcases hq' with rfl | e
        · exact a2.sn _ mself
        · exact a3 q ((pmem q).2 (.inl e))
      · rcases a4 x hx with e | e
        · by_cases hxt : x = seenAt n D pl t
          · exact .inr ⟨t, ot, hxt⟩
          · refine .inl ?_
            rw [e_sn] at e
            have : (x == seenAt n D pl t) = false := by rw [beq_eq_false_iff_ne]; exact hxt
            simpa [more, this] using e
        · exact .inr e
      · rw [e_ah, List.append_assoc] at a5
        refine ⟨_, a5, fun u hu => ?_⟩
        rcases List.mem_append.1 hu with e | e
        · split at e
          · rw [List.mem_singleton.1 e]; exact ⟨xt, behind_ok hc ot⟩
          · cases e
        · exact a6 u e
      · rcases a7 with ⟨e1, e2⟩ | e
        · by_cases h6 : (cd t.pc).kind = 6
          · refine .inr ⟨?_, ?_, ?_⟩
            · rw [e1, e_fd]; simp [h6]
            · rw [e2, e_be, if_pos h6, b0]
            · rw [e2, e_be, if_pos h6, b1]
          · refine .inl ⟨?_, ?_⟩
            · rw [e1, e_fd]; simp [h6]
            · rw [e2, e_be, if_neg h6]
        · exact .inr e
  | k + 1, none, s, s', h, hp, hb, hi => by
    rw [drive] at h
    split at h
    · rename_i hl
      have hl' : s.left = [] := by simpa using hl
      cases h
      rw [hl'] at hi hp ⊢
      exact ⟨hi, GrP.refl _ _, fun q hq => (by cases hq), fun x hx => .inl hx, ⟨[], by simp, fun u hu => (by cases hu)⟩, .inl ⟨rfl, rfl⟩⟩
    · rename_i q hl
      have hm : ∀ z, z ∈ s.left ↔ z = q ∨ z ∈ s.left.dropLast := fun z => by
        have : s.left = s.left.dropLast ++ [q] := last_split hl
        constructor
        · intro hz
          rw [this] at hz
          simp at hz
          exact hz.symm
        · rintro (e | e)
          · rw [e]; exact List.mem_of_getLast? hl
          · exact List.dropLast_subset _ e
      obtain ⟨a1, a2, a3, a4, a5, a6⟩ := drive_closed hc (S0 := S0) (b := b) k (some q) { s with left := s.left.dropLast } s' h (fun z hz => hp z (by
        have hz' : z = q ∨ z ∈ s.left.dropLast := by simpa using hz
        simpa using (hm z).2 hz')) hb (fun z hz hsz => by
        rcases hi z hz hsz with e | ⟨e1, e2⟩
        · exact .inl e
        · refine .inr ⟨e1, fun u hu => ?_⟩
          rcases e2 u hu with e | ⟨v, hv, sv⟩
          · exact .inl e
          · exact .inr ⟨v, by simpa using (hm v).1 (by simpa using hv), sv⟩)
      exact ⟨a1, ⟨a2.ahead, a2.fd, a2.sn⟩, fun z hz => a3 z (by simpa using (hm z).1 (by simpa using hz)), a4, a5, a6⟩
end
end Go.Proofs.YtonnimbcekhbgaaGreatDoor
