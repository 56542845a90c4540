/- A pattern that is a row of bytes, perhaps bound to the text's beginning or its end: what the machine finds is the first place where it stands. -/
import Derived.Test.YtbakfojamdocgaaDoorGK
namespace Go.Proofs.YtbakfojamdocgaaDoor
open Go.RowKit

section
variable {cd : Nat → In} {D : Nat} {text : ByteArray} {pl : Nat} {t : Thr} {s s' : Mc}

theorem goes_seen_inv (h : s.sn (seenAt D t) = ((pl + 1 : Nat) : Int)) (g : Goes cd D text pl (some t) s s') : Goes cd D text pl none s s' := by
  obtain ⟨k, hk⟩ := g
  match k, hk with
  | k + 1, hk =>
    rw [drive, if_pos h] at hk
    exact ⟨k, hk⟩
theorem goes_step_inv (h : ¬ s.sn (seenAt D t) = ((pl + 1 : Nat) : Int)) (g : Goes cd D text pl (some t) s s') :
    Goes cd D text pl (stepA cd text pl t { s with sn := nu s.sn (seenAt D t) ((pl + 1 : Nat) : Int) }).1 (stepA cd text pl t { s with sn := nu s.sn (seenAt D t) ((pl + 1 : Nat) : Int) }).2 s' := by
  obtain ⟨k, hk⟩ := g
  match k, hk with
  | k + 1, hk =>
    rw [drive, if_neg h] at hk
    exact ⟨k, hk⟩
theorem goes_done_inv (h : s.left = []) (g : Goes cd D text pl none s s') : s' = s := by
  obtain ⟨k, hk⟩ := g
  match k, hk with
  | k + 1, hk =>
    rw [drive, h] at hk
    exact (Option.some.inj hk).symm
end

section
variable {cd : Nat → In} {text : ByteArray} {pl : Nat} {t : Thr} {s : Mc}
theorem stepA_end (h : (cd t.pc).kind = 2) : stepA cd text pl t s = if pl = text.size then (some ⟨(cd t.pc).nx, t.tk, t.x⟩, s) else (none, s) := by simp [stepA, h]
theorem stepA_begin (h : (cd t.pc).kind = 1) : stepA cd text pl t s = if pl = 0 then (some ⟨(cd t.pc).nx, t.tk, t.x⟩, s) else (none, s) := by simp [stepA, h]
theorem stepA_fin (h : (cd t.pc).kind = 6) : stepA cd text pl t s = (none, { s with fd := true, best := nu t.x 1 pl }) := by simp [stepA, h]
end

/-- The code of a row of L bytes, behind the beginning (B = 1) or not, ahead of the end (E = 1) or not. -/
structure Chain (cd : Nat → In) (B E L : Nat) (ms : Nat → Nat → Bool) : Prop where
  b01 : B ≤ 1
  e01 : E ≤ 1
  fin : (cd 0).kind = 6
  endI : E = 1 → (cd 1).kind = 2 ∧ (cd 1).nx = 0
  byteI : ∀ j, j < L → (cd (E + L - j)).kind = 0 ∧ (cd (E + L - j)).nx = E + L - j - 1 ∧ (cd (E + L - j)).dp = 0 ∧ (cd (E + L - j)).m = ms j
  begI : B = 1 → (cd (E + L + 1)).kind = 1 ∧ (cd (E + L + 1)).nx = E + L

/-- The way that began at a, at place pl. -/
def way (E L pl a : Nat) : Thr := ⟨E + L - (pl - a), 0, nz a⟩
/-- Does it take the byte there? -/
def takes (ms : Nat → Nat → Bool) (text : ByteArray) (pl a : Nat) : Bool := if h : pl < text.size then ms (pl - a) (text[pl]'h).toNat else false

section
variable {cd : Nat → In} {B E L pl a : Nat} {ms : Nat → Nat → Bool} {text : ByteArray} {s s' : Mc}

theorem seenAt_zero (t : Thr) (h : t.tk = 0) : seenAt 0 t = t.pc := by unfold seenAt; rw [h]; omega

theorem way_byte (ch : Chain cd B E L ms) (ha : a ≤ pl) (hj : pl - a < L) (hl : s.left = []) (hf : ¬ s.sn (E + L - (pl - a)) = ((pl + 1 : Nat) : Int)) (g : Goes cd 0 text pl (some (way E L pl a)) s s') :
    s' = { s with sn := nu s.sn (E + L - (pl - a)) ((pl + 1 : Nat) : Int), ahead := s.ahead ++ (if takes ms text pl a = true then [way E L (pl + 1) a] else []) } := by
  have hb := ch.byteI _ hj
  have hsa : seenAt 0 (way E L pl a) = E + L - (pl - a) := seenAt_zero _ rfl
  have g1 := goes_step_inv (by rw [hsa]; exact hf) g
  rw [hsa] at g1
  have enx : E + L - (pl - a) - 1 = E + L - (pl + 1 - a) := by omega
  have es : stepA cd text pl (way E L pl a) { s with sn := nu s.sn (E + L - (pl - a)) ((pl + 1 : Nat) : Int) } = (none, { s with sn := nu s.sn (E + L - (pl - a)) ((pl + 1 : Nat) : Int), ahead := s.ahead ++ (if takes ms text pl a = true then [way E L (pl + 1) a] else []) }) := by
    unfold takes
    by_cases hlt : pl < text.size
    · by_cases hm : ms (pl - a) (text[pl]).toNat = true
      · simp [stepA, way, hb.1, hb.2.1, hb.2.2.1, hb.2.2.2, hlt, hm, enx]
      · simp [stepA, way, hb.1, hb.2.2.2, hlt, hm]
    · simp [stepA, way, hb.1, hlt]
  rw [es] at g1
  exact goes_done_inv hl g1

/-- The way has taken all its bytes. -/
theorem way_last (ch : Chain cd B E L ms) (hj : pl - a = L) (hl : s.left = []) (h0 : ¬ s.sn 0 = ((pl + 1 : Nat) : Int)) (h1 : E = 1 → ¬ s.sn 1 = ((pl + 1 : Nat) : Int)) (g : Goes cd 0 text pl (some (way E L pl a)) s s') :
    (E = 1 → pl = text.size) ∧ s'.fd = true ∧ s'.best = nu (nz a) 1 pl ∧ s'.left = [] ∧ s'.ahead = s.ahead ∨
    ¬ (E = 1 → pl = text.size) ∧ s' = { s with sn := nu s.sn 1 ((pl + 1 : Nat) : Int) } := by
  have hpc : (way E L pl a).pc = E := by show E + L - (pl - a) = E; omega
  have hsa : seenAt 0 (way E L pl a) = E := (seenAt_zero _ rfl).trans hpc
  have he := ch.e01
  by_cases hE : E = 1
  · have hi := ch.endI hE
    have g1 := goes_step_inv (by rw [hsa, hE]; exact h1 hE) g
    rw [hsa] at g1
    have hcd : cd (way E L pl a).pc = cd 1 := by rw [hpc, hE]
    by_cases hp : pl = text.size
    · have es : stepA cd text pl (way E L pl a) { s with sn := nu s.sn E ((pl + 1 : Nat) : Int) } = (some ⟨0, 0, nz a⟩, { s with sn := nu s.sn E ((pl + 1 : Nat) : Int) }) := by
        rw [stepA_end (by rw [hcd]; exact hi.1), if_pos hp, hcd, hi.2]; rfl
      rw [es] at g1
      have hs0 : seenAt 0 (⟨0, 0, nz a⟩ : Thr) = 0 := rfl
      have g2 := goes_step_inv (by rw [hs0, hE]; simpa [nu] using h0) g1
      rw [hs0] at g2
      have es2 : ∀ s2 : Mc, stepA cd text pl ⟨0, 0, nz a⟩ s2 = (none, { s2 with fd := true, best := nu (nz a) 1 pl }) := fun s2 => stepA_fin ch.fin
      rw [es2] at g2
      have g3 := goes_done_inv (by exact hl) g2
      refine .inl ⟨fun _ => hp, ?_, ?_, ?_, ?_⟩ <;> rw [g3]
      exact hl
    · have es : stepA cd text pl (way E L pl a) { s with sn := nu s.sn E ((pl + 1 : Nat) : Int) } = (none, { s with sn := nu s.sn E ((pl + 1 : Nat) : Int) }) := by
        rw [stepA_end (by rw [hcd]; exact hi.1), if_neg hp]
      rw [es] at g1
      have g3 := goes_done_inv (by exact hl) g1
      refine .inr ⟨fun q => hp (q hE), ?_⟩
      rw [g3, hE]
  · have hE0 : E = 0 := by omega
    have g1 := goes_step_inv (by rw [hsa, hE0]; exact h0) g
    rw [hsa] at g1
    have hcd : cd (way E L pl a).pc = cd 0 := by rw [hpc, hE0]
    have es : ∀ s2 : Mc, stepA cd text pl (way E L pl a) s2 = (none, { s2 with fd := true, best := nu (nz a) 1 pl }) := fun s2 => by
      rw [stepA_fin (by rw [hcd]; exact ch.fin)]; rfl
    rw [es] at g1
    have g3 := goes_done_inv (by exact hl) g1
    refine .inl ⟨fun q => absurd q hE, ?_, ?_, ?_, ?_⟩ <;> rw [g3]
    exact hl
end
end Go.Proofs.YtbakfojamdocgaaDoor
