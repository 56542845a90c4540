/- The code of a row of bytes, perhaps bound to the text's beginning or its end: its ways. Pure. -/
import Derived.Test.YtanpiomfnbiilaaDoorWC
namespace Go.Proofs.YtanpiomfnbiilaaDoor
open Go.RowKit

/-- The code of a row of L bytes, behind the beginning (B = 1) or not, ahead of the end (E = 1) or not. -/
structure Chain (cd : Nat → In) (B E L : Nat) (ms : Nat → Nat → Bool) : Prop where
  b01 : B ≤ 1
  e01 : E ≤ 1
  fin : (cd 0).kind = 6
  endI : E = 1 → (cd 1).kind = 2 ∧ (cd 1).nx = 0
  byteI : ∀ j, j < L → (cd (E + L - j)).kind = 0 ∧ (cd (E + L - j)).nx = E + L - j - 1 ∧ (cd (E + L - j)).dp = 0 ∧ (cd (E + L - j)).m = ms j
  begI : B = 1 → (cd (E + L + 1)).kind = 1 ∧ (cd (E + L + 1)).nx = E + L

/-- The first j bytes from place a on are as the sets say. -/
def pre (ms : Nat → Nat → Bool) (text : ByteArray) (a : Nat) : Nat → Bool
  | 0 => true
  | j + 1 => pre ms text a j && (if h : a + j < text.size then ms j (text[a + j]'h).toNat else false)

/-- The row stands at place a. -/
def Stands (B E L : Nat) (ms : Nat → Nat → Bool) (text : ByteArray) (a : Nat) : Prop := (B = 0 ∨ a = 0) ∧ a + L ≤ text.size ∧ pre ms text a L = true ∧ (E = 1 → a + L = text.size)

/-- What is said of the end: the first place, or none. -/
def Ended (B E L : Nat) (ms : Nat → Nat → Bool) (text : ByteArray) (s' : Mc) : Prop :=
  (∃ a, Stands B E L ms text a ∧ (∀ b, b < a → ¬ Stands B E L ms text b) ∧ s'.fd = true ∧ s'.best = nu (nz a) 1 ((a + L : Nat) : Int)) ∨ ((∀ a, ¬ Stands B E L ms text a) ∧ s'.fd = false)

section
variable {cd : Nat → In} {B E L pl : Nat} {ms : Nat → Nat → Bool} {text : ByteArray} {t : Thr}

/-- Where a way of a row may be. -/
def Cw (B E L : Nat) (ms : Nat → Nat → Bool) (text : ByteArray) (pl : Nat) (t : Thr) : Prop :=
  (B = 1 ∧ t.pc = E + L + 1 ∧ t.x = nz pl) ∨ (∃ a j, j ≤ L ∧ (B = 0 ∨ a = 0) ∧ pl = a + j ∧ pre ms text a j = true ∧ t.x = nz a ∧ t.pc = E + L - j) ∨
    (E = 1 ∧ t.pc = 0 ∧ pl = text.size ∧ ∃ a, (B = 0 ∨ a = 0) ∧ pl = a + L ∧ pre ms text a L = true ∧ t.x = nz a)

theorem chain_way (ch : Chain cd B E L ms) (h : Way cd text (E + L + B) 0 pl t) : Cw B E L ms text pl t := by
  have hb := ch.b01
  have he := ch.e01
  induction h with
  | start a _ _ =>
    by_cases hB : B = 1
    · exact .inl ⟨hB, by show E + L + B = _; omega, rfl⟩
    · exact .inr (.inl ⟨a, 0, Nat.zero_le _, .inl (by omega), rfl, rfl, rfl, by show E + L + B = _; omega⟩)
  | eps h hu ih =>
    rename_i p t u
    obtain ⟨c, hc, rfl⟩ := List.mem_map.1 hu
    rcases ih with ⟨h1, h2, h3⟩ | ⟨a, j, h1, h2, h3, h4, h5, h6⟩ | ⟨_, h2, _⟩
    · have k := ch.begI h1
      rw [← h2] at k
      unfold epsC at hc
      rw [if_pos k.1] at hc
      split at hc
      · rename_i hp
        simp at hc
        subst hc
        refine .inr (.inl ⟨p, 0, Nat.zero_le _, .inr hp, rfl, rfl, ?_, ?_⟩)
        · show noteE cd p t.pc t.x = _
          unfold noteE; rw [if_neg (by omega)]; exact h3
        · show (cd t.pc).nx = _
          rw [k.2]; rfl
      · cases hc
    · by_cases hj : j < L
      · have k := ch.byteI j hj
        rw [← h6] at k
        unfold epsC at hc
        rw [k.1] at hc
        simp at hc
      · have ej : j = L := by omega
        subst ej
        have e6 : t.pc = E := by omega
        by_cases hE : E = 1
        · have k := ch.endI hE
          have e1 : t.pc = 1 := by omega
          rw [← e1] at k
          unfold epsC at hc
          rw [if_neg (by omega), if_pos k.1] at hc
          split at hc
          · rename_i hp
            simp at hc
            subst hc
            refine .inr (.inr ⟨hE, k.2, hp, a, h2, h3, h4, ?_⟩)
            show noteE cd p t.pc t.x = _
            unfold noteE; rw [if_neg (by omega)]; exact h5
          · cases hc
        · have k := ch.fin
          have e0 : t.pc = 0 := by omega
          rw [← e0] at k
          unfold epsC at hc
          rw [k] at hc
          simp at hc
    · have k := ch.fin
      rw [← h2] at k
      unfold epsC at hc
      rw [k] at hc
      simp at hc
  | byte h hb' ih =>
    rename_i p t
    unfold takesB at hb'
    simp at hb'
    obtain ⟨k0, hlt, hm⟩ := hb'
    rcases ih with ⟨h1, h2, _⟩ | ⟨a, j, h1, h2, h3, h4, h5, h6⟩ | ⟨_, h2, _⟩
    · have k := ch.begI h1
      rw [← h2] at k
      omega
    · by_cases hj : j < L
      · have k := ch.byteI j hj
        rw [← h6] at k
        refine .inr (.inl ⟨a, j + 1, by omega, h2, by omega, ?_, h5, ?_⟩)
        · unfold pre
          rw [h4, dif_pos (by omega), Bool.true_and]
          rw [k.2.2.2] at hm
          subst h3
          exact hm
        · show (cd t.pc).nx = _
          rw [k.2.1]; omega
      · have e6 : t.pc = E := by omega
        by_cases hE : E = 1
        · have k := ch.endI hE
          have e1 : t.pc = 1 := by omega
          rw [← e1] at k
          omega
        · have k := ch.fin
          have e0 : t.pc = 0 := by omega
          rw [← e0] at k
          omega
    · have k := ch.fin
      rw [← h2] at k
      omega

theorem way_pre (ch : Chain cd B E L ms) {a tk : Nat} (h : Way cd text (E + L + B) 0 a ⟨E + L, tk, nz a⟩) : ∀ j, j ≤ L → pre ms text a j = true → ∃ tk, Way cd text (E + L + B) 0 (a + j) ⟨E + L - j, tk, nz a⟩
  | 0, _, _ => ⟨tk, h⟩
  | j + 1, hj, hp => by
    unfold pre at hp
    simp only [Bool.and_eq_true] at hp
    obtain ⟨tk', hw⟩ := way_pre ch h j (by omega) hp.1
    have k := ch.byteI j (by omega)
    have h2 := hp.2
    split at h2
    · rename_i hlt
      have tb : takesB cd text (a + j) ⟨E + L - j, tk', nz a⟩ = true := by
        unfold takesB
        rw [dif_pos hlt]
        show (decide ((cd (E + L - j)).kind = 0) && (cd (E + L - j)).m _) = true
        rw [k.1, k.2.2.2]
        simpa using h2
      have := Way.byte hw tb
      refine ⟨(cd (E + L - j)).dp, ?_⟩
      have e : behind cd ⟨E + L - j, tk', nz a⟩ = ⟨E + L - (j + 1), (cd (E + L - j)).dp, nz a⟩ := by
        unfold behind
        show (⟨(cd (E + L - j)).nx, _, _⟩ : Thr) = _
        rw [k.2.1, show E + L - j - 1 = E + L - (j + 1) by omega]
      rw [e] at this
      exact this
    · cases h2

theorem chain_stands (ch : Chain cd B E L ms) {a : Nat} (h : Stands B E L ms text a) : ∃ t, Way cd text (E + L + B) 0 (a + L) t ∧ (cd t.pc).kind = 6 ∧ t.x = nz a := by
  obtain ⟨h1, h2, h3, h4⟩ := h
  have hb := ch.b01
  have he := ch.e01
  have w0 : ∃ tk, Way cd text (E + L + B) 0 a ⟨E + L, tk, nz a⟩ := by
    by_cases hB : B = 1
    · have ha : a = 0 := by omega
      have k := ch.begI hB
      have s0 := Way.start (cd := cd) (text := text) (bg := E + L + B) (fr := 0) a (Nat.zero_le _) (by omega)
      refine ⟨0, s0.eps (List.mem_map.2 ⟨(E + L, 0), ?_, ?_⟩)⟩
      · show (E + L, 0) ∈ epsC cd text a (E + L + B) 0
        unfold epsC
        rw [hB, if_pos k.1, if_pos ha, k.2]
        simp
      · show (⟨E + L, 0, noteE cd a (E + L + B) (nz a)⟩ : Thr) = _
        unfold noteE
        rw [hB, if_neg (by omega)]
    · have e : E + L + B = E + L := by omega
      refine ⟨0, ?_⟩
      have s0 := Way.start (cd := cd) (text := text) (bg := E + L + B) (fr := 0) a (Nat.zero_le _) (by omega)
      rw [e] at s0 ⊢
      exact s0
  obtain ⟨tk, w0⟩ := w0
  obtain ⟨tk', w1⟩ := way_pre ch w0 L (Nat.le_refl _) h3
  rw [show E + L - L = E by omega] at w1
  by_cases hE : E = 1
  · have k := ch.endI hE
    refine ⟨⟨0, tk', nz a⟩, w1.eps (List.mem_map.2 ⟨(0, tk'), ?_, ?_⟩), ch.fin, rfl⟩
    · show (0, tk') ∈ epsC cd text (a + L) E tk'
      unfold epsC
      rw [hE, if_neg (by omega), if_pos k.1, if_pos (h4 hE), k.2]
      simp
    · show (⟨0, tk', noteE cd (a + L) E (nz a)⟩ : Thr) = _
      unfold noteE
      rw [hE, if_neg (by omega)]
  · have e0 : E = 0 := by omega
    rw [e0] at w1
    subst e0
    exact ⟨_, w1, ch.fin, rfl⟩

theorem chain_found (ch : Chain cd B E L ms) (h : Way cd text (E + L + B) 0 pl t) (h6 : (cd t.pc).kind = 6) : ∃ a, Stands B E L ms text a ∧ pl = a + L ∧ t.x = nz a := by
  have hle := h.le
  have he := ch.e01
  rcases chain_way ch h with ⟨h1, h2, h3⟩ | ⟨a, j, h1, h2, h3, h4, h5, e6⟩ | ⟨hE, h2, hp, a, q1, q2, q3, q4⟩
  · have k := ch.begI h1
    rw [← h2] at k
    omega
  · by_cases hj : j < L
    · have k := ch.byteI j hj
      rw [← e6] at k
      omega
    · have ej : j = L := by omega
      subst ej
      by_cases hE : E = 1
      · have k := ch.endI hE
        have e1 : t.pc = 1 := by omega
        rw [← e1] at k
        omega
      · exact ⟨a, ⟨h2, by omega, h4, fun q => absurd q hE⟩, h3, h5⟩
  · exact ⟨a, ⟨q1, by omega, q3, fun _ => by omega⟩, q2, q4⟩

theorem runs_row {n D : Nat} (hc : Cok cd n D (E + L + B)) (ch : Chain cd B E L ms) {s' : Mc} (r : Runs cd n D text (E + L + B) (text.size + 1) 0 [] mc0 s') : Ended B E L ms text s' := by
  obtain ⟨h1, h2⟩ := runs_ways hc r
  cases hf : s'.fd with
  | false =>
    refine .inr ⟨fun a st => ?_, hf⟩
    obtain ⟨t, w, k, _⟩ := chain_stands ch st
    have := (h2 _ t w k).1
    rw [hf] at this; cases this
  | true =>
    obtain ⟨e, t, w, k, hb⟩ := h1 hf
    obtain ⟨a, st, he, hx⟩ := chain_found ch w k
    refine .inl ⟨a, st, fun b hb' sb => ?_, hf, by rw [hb, hx, he]⟩
    obtain ⟨t2, w2, k2, x2⟩ := chain_stands ch sb
    have := (h2 _ t2 w2 k2).2.1
    rw [hb, hx, x2] at this
    simp [nu, nz] at this
    omega
end
end Go.Proofs.YtanpiomfnbiilaaDoor
