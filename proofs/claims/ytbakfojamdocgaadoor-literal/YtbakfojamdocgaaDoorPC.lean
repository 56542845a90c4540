/- A row of bytes: what is found in the end is the first place where it stands. -/
import Derived.Test.YtbakfojamdocgaaDoorPB
namespace Go.Proofs.YtbakfojamdocgaaDoor
open Go.RowKit

/-- The first j bytes stand from a on. -/
def pre (ms : Nat → Nat → Bool) (text : ByteArray) (a : Nat) : Nat → Bool
  | 0 => true
  | j + 1 => pre ms text a j && (if h : a + j < text.size then ms j (text[a + j]'h).toNat else false)

/-- The ways at a place: where each began. -/
def alive (B L : Nat) (ms : Nat → Nat → Bool) (text : ByteArray) (pl a : Nat) : Bool := (decide (B = 0) || decide (a = 0)) && decide (pl - a ≤ L) && pre ms text a (pl - a)

theorem takes_pre (ms : Nat → Nat → Bool) (text : ByteArray) (pl a : Nat) (h : a ≤ pl) : pre ms text a (pl + 1 - a) = (pre ms text a (pl - a) && takes ms text pl a) := by
  have e : pl + 1 - a = (pl - a) + 1 := by omega
  have e2 : a + (pl - a) = pl := by omega
  rw [e, pre]
  unfold takes
  simp only [e2]

theorem alive_next (B L : Nat) (ms : Nat → Nat → Bool) (text : ByteArray) (pl a : Nat) (h : a ≤ pl) : alive B L ms text (pl + 1) a = (alive B L ms text pl a && (decide (pl - a < L) && takes ms text pl a)) := by
  unfold alive
  rw [takes_pre ms text pl a h]
  have e : decide (pl + 1 - a ≤ L) = (decide (pl - a ≤ L) && decide (pl - a < L)) := by
    rw [Bool.eq_iff_iff]; simp; omega
  rw [e]
  cases decide (B = 0) || decide (a = 0) <;> cases decide (pl - a ≤ L) <;> cases decide (pl - a < L) <;> cases pre ms text a (pl - a) <;> cases takes ms text pl a <;> rfl

def starts (B L : Nat) (ms : Nat → Nat → Bool) (text : ByteArray) (pl : Nat) : List Nat := (List.range pl).filter (alive B L ms text pl)

theorem starts_next (B L : Nat) (ms : Nat → Nat → Bool) (text : ByteArray) (pl : Nat) :
    ((starts B L ms text pl ++ (if alive B L ms text pl pl = true then [pl] else [])).filter fun a => decide (pl - a < L)).filter (takes ms text pl) = starts B L ms text (pl + 1) := by
  unfold starts
  have e1 : (List.range pl).filter (alive B L ms text pl) ++ (if alive B L ms text pl pl = true then [pl] else []) = (List.range (pl + 1)).filter (alive B L ms text pl) := by
    rw [List.range_succ, List.filter_append]
    congr 1
    by_cases h : alive B L ms text pl pl = true <;> simp [h]
  rw [e1, List.filter_filter, List.filter_filter]
  refine List.filter_congr fun a ha => ?_
  have hle : a ≤ pl := by have := List.mem_range.1 ha; omega
  rw [alive_next B L ms text pl a hle]
  cases alive B L ms text pl a <;> cases decide (pl - a < L) <;> cases takes ms text pl a <;> rfl

theorem starts_mem {B L : Nat} {ms : Nat → Nat → Bool} {text : ByteArray} {pl a : Nat} (h : a ∈ starts B L ms text pl) : a < pl ∧ alive B L ms text pl a = true := by
  unfold starts at h
  rw [List.mem_filter, List.mem_range] at h
  exact h
theorem starts_sorted (B L : Nat) (ms : Nat → Nat → Bool) (text : ByteArray) (pl : Nat) : (starts B L ms text pl).Pairwise (· < ·) := List.Pairwise.filter _ List.pairwise_lt_range

theorem alive_le {B L : Nat} {ms : Nat → Nat → Bool} {text : ByteArray} {pl a : Nat} (h : alive B L ms text pl a = true) : (B = 0 ∨ a = 0) ∧ pl - a ≤ L ∧ pre ms text a (pl - a) = true := by
  unfold alive at h
  simp only [Bool.and_eq_true, Bool.or_eq_true, decide_eq_true_eq] at h
  exact ⟨h.1.1, h.1.2, h.2⟩

/-- It stands at a. -/
def Stands (B E L : Nat) (ms : Nat → Nat → Bool) (text : ByteArray) (a : Nat) : Prop := (B = 0 ∨ a = 0) ∧ a + L ≤ text.size ∧ pre ms text a L = true ∧ (E = 1 → a + L = text.size)

/-- What is said of the end: the first place, or none. -/
def Ended (B E L : Nat) (ms : Nat → Nat → Bool) (text : ByteArray) (s' : Mc) : Prop :=
  (∃ a, Stands B E L ms text a ∧ (∀ b, b < a → ¬ Stands B E L ms text b) ∧ s'.fd = true ∧ s'.best = nu (nz a) 1 ((a + L : Nat) : Int)) ∨ ((∀ a, ¬ Stands B E L ms text a) ∧ s'.fd = false)

section
variable {cd : Nat → In} {B E L : Nat} {ms : Nat → Nat → Bool} {text : ByteArray}

/-- The way that begins at this place, where it is no way of the row's: it ends at once. -/
theorem spawn_dies {pl : Nat} {s1 s' : Mc} (ch : Chain cd B E L ms) (hB : B = 1) (hp : 0 < pl) (hf : s1.fd = false) (hl : s1.left = []) (hle : ∀ i, s1.sn i ≤ ((pl + 1 : Nat) : Int)) (hfr : ∀ i, s1.sn i = ((pl + 1 : Nat) : Int) → i ≤ E + L)
    (sw : Sweep cd 0 text pl [⟨E + L + B, 0, nz pl⟩] s1 s') : s'.fd = false ∧ s'.left = [] ∧ (∀ i, s'.sn i ≤ ((pl + 1 : Nat) : Int)) ∧ s'.ahead = s1.ahead := by
  rcases sw with ⟨q, _⟩ | ⟨_, s2, g, sw2⟩
  · rw [hf] at q; cases q
  · have e2 : s' = s2 := sw2
    have hi := ch.begI hB
    have hsa : seenAt 0 (⟨E + L + B, 0, nz pl⟩ : Thr) = E + L + B := seenAt_zero _ rfl
    have g1 := goes_step_inv (by rw [hsa]; intro q; have := hfr _ q; omega) g
    rw [hsa, stepA_begin (by show (cd (E + L + B)).kind = 1; rw [hB]; exact hi.1), if_neg (by omega)] at g1
    have g2 := goes_done_inv (by exact hl) g1
    rw [e2, g2]
    refine ⟨hf, hl, fun i => ?_, rfl⟩
    by_cases q : i = E + L + B
    · simp [nu, q]
    · simpa [nu, q] using hle i

/-- The way that begins at the text's beginning, where the row is bound to it: it goes on as the row's first one. -/
theorem spawn_begins {s s' : Mc} (ch : Chain cd B E L ms) (hB : B = 1) (hf : s.fd = false) (hs : ∀ i, s.sn i ≤ (0 : Int))
    (sw : Sweep cd 0 text 0 [⟨E + L + B, 0, nz (0 : Nat)⟩] s s') : Sweep cd 0 text 0 [way E L 0 0] { s with sn := nu s.sn (E + L + 1) ((0 + 1 : Nat) : Int) } s' := by
  rcases sw with ⟨q, _⟩ | ⟨_, s2, g, sw2⟩
  · rw [hf] at q; cases q
  · have hi := ch.begI hB
    have hsa : seenAt 0 (⟨E + L + B, 0, nz (0 : Nat)⟩ : Thr) = E + L + 1 := by rw [seenAt_zero _ rfl]; show E + L + B = _; rw [hB]
    have g1 := goes_step_inv (by rw [hsa]; intro q; have := hs (E + L + 1); omega) g
    rw [hsa, stepA_begin (by show (cd (E + L + B)).kind = 1; rw [hB]; exact hi.1), if_pos rfl] at g1
    have e : (cd (E + L + B)).nx = E + L := by rw [hB]; exact hi.2
    refine .inr ⟨?_, s2, ?_, sw2⟩
    · rintro ⟨q, _⟩
      rw [hf] at q; cases q
    · have e2 : (⟨(cd (E + L + B)).nx, 0, nz (0 : Nat)⟩ : Thr) = way E L 0 0 := by rw [e]; rfl
      rw [← e2]; exact g1
end
end Go.Proofs.YtbakfojamdocgaaDoor
