/- A row of bytes, perhaps bound to the text's beginning or its end (the part that asks for no Match). -/
import Derived.Test.YtonnimbcekhbgaaGreatDoorRDToRE
namespace Go.Proofs.YtonnimbcekhbgaaGreatDoor
open Go.RowKit

/-- The pieces of a row of L bytes, behind the beginning (B = 1) or not, ahead of the end (E = 1) or not. -/
def pcsOf (B E L : Nat) (ms : Nat → Nat → Bool) : List Pc := (if B = 1 then [⟨1, noBytes⟩] else []) ++ ((List.range L).map (fun j => (⟨0, ms j⟩ : Pc)) ++ (if E = 1 then [⟨2, noBytes⟩] else []))

section
variable {B E L : Nat} {ms : Nat → Nat → Bool}
theorem pcsOf_len (hB : B ≤ 1) (hE : E ≤ 1) : (pcsOf B E L ms).length = B + (L + E) := by
  have h1 : (if B = 1 then [(⟨1, noBytes⟩ : Pc)] else []).length = B := by split <;> simp <;> omega
  have h2 : (if E = 1 then [(⟨2, noBytes⟩ : Pc)] else []).length = E := by split <;> simp <;> omega
  unfold pcsOf
  rw [List.length_append, List.length_append, h1, h2]; simp

theorem pcsOf_kind (q : Pc) (h : q ∈ pcsOf B E L ms) : q.kind ≤ 2 := by
  unfold pcsOf at h
  rcases List.mem_append.1 h with h | h
  · split at h
    · rw [List.mem_singleton.1 h]; show 1 ≤ 2; omega
    · cases h
  · rcases List.mem_append.1 h with h | h
    · obtain ⟨j, _, rfl⟩ := List.mem_map.1 h; exact Nat.zero_le _
    · split at h
      · rw [List.mem_singleton.1 h]; exact Nat.le_refl _
      · cases h

theorem pcsOf_byte (hB : B ≤ 1) (j : Nat) (hj : j < L) : (pcsOf B E L ms)[B + j]? = some ⟨0, ms j⟩ := by
  have h1 : (if B = 1 then [(⟨1, noBytes⟩ : Pc)] else []).length = B := by split <;> simp <;> omega
  unfold pcsOf
  rw [List.getElem?_append_right (by omega), h1, Nat.add_sub_cancel_left, List.getElem?_append_left (by simp; exact hj)]
  simp [hj]
theorem pcsOf_begin (hB : B = 1) : (pcsOf B E L ms)[0]? = some ⟨1, noBytes⟩ := by unfold pcsOf; rw [if_pos hB]; rfl
theorem pcsOf_end (hB : B ≤ 1) (hE : E = 1) : (pcsOf B E L ms)[B + L]? = some ⟨2, noBytes⟩ := by
  have h1 : (if B = 1 then [(⟨1, noBytes⟩ : Pc)] else []).length = B := by split <;> simp <;> omega
  unfold pcsOf
  rw [List.getElem?_append_right (by omega), h1, Nat.add_sub_cancel_left, List.getElem?_append_right (by simp), if_pos hE]
  simp

theorem cdOf_at {pcs : List Pc} {i : Nat} {q : Pc} (hi : i < pcs.length) (h : pcs[pcs.length - 1 - i]? = some q) : cdOf pcs (i + 1) = if q.kind = 0 then ⟨0, i, 0, 0, 0, q.m⟩ else ⟨q.kind, i, 0, 0, 0, noBytes⟩ := by
  unfold cdOf
  rw [if_neg (by omega), show i + 1 - 1 = i by omega, List.getElem?_reverse hi, h]

theorem chain_of (hB : B ≤ 1) (hE : E ≤ 1) : Chain (cdOf (pcsOf B E L ms)) B E L ms := by
  have hl := pcsOf_len (L := L) (ms := ms) hB hE
  refine ⟨hB, hE, ?_, fun h => ?_, fun j hj => ?_, fun h => ?_⟩
  · unfold cdOf; rw [if_pos rfl]
  · have := cdOf_at (pcs := pcsOf B E L ms) (i := 0) (q := ⟨2, noBytes⟩) (by omega) (by rw [hl, show B + (L + E) - 1 - 0 = B + L by omega]; exact pcsOf_end hB h)
    rw [this]; exact ⟨rfl, rfl⟩
  · have := cdOf_at (pcs := pcsOf B E L ms) (i := E + L - j - 1) (q := ⟨0, ms j⟩) (by omega) (by rw [hl, show B + (L + E) - 1 - (E + L - j - 1) = B + j by omega]; exact pcsOf_byte hB j hj)
    rw [show E + L - j - 1 + 1 = E + L - j by omega] at this
    rw [this]; exact ⟨rfl, rfl, rfl, rfl⟩
  · have := cdOf_at (pcs := pcsOf B E L ms) (i := E + L) (q := ⟨1, noBytes⟩) (by omega) (by rw [hl, show B + (L + E) - 1 - (E + L) = 0 by omega]; exact pcsOf_begin h)
    rw [this]; exact ⟨rfl, rfl⟩
end

theorem cdOf_kind (pcs : List Pc) (hk : ∀ q ∈ pcs, q.kind ≤ 2) (a : Nat) (ha : a < 1 + pcs.length) : (cdOf pcs a).kind ≤ 2 ∨ (cdOf pcs a).kind = 6 := by
  match a, ha with
  | 0, _ => right; unfold cdOf; rw [if_pos rfl]
  | i + 1, ha =>
    left
    obtain ⟨q, hq⟩ : ∃ q, pcs.reverse[i]? = some q := ⟨pcs.reverse[i]'(by simp; omega), List.getElem?_eq_getElem (by simp; omega)⟩
    have hm : q ∈ pcs := List.mem_reverse.1 (List.mem_of_getElem? hq)
    have := hk q hm
    unfold cdOf
    rw [if_neg (by omega), show i + 1 - 1 = i by omega, hq]
    by_cases h0 : q.kind = 0
    · simp only [h0, if_true]; omega
    · simp only [h0, if_false]; omega
end Go.Proofs.YtonnimbcekhbgaaGreatDoor
