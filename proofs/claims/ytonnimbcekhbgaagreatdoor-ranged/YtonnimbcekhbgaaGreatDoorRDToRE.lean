/- One text out of several: RD RE. -/
import Derived.Test.YtonnimbcekhbgaaGreatDoorRAToRC
import Derived.Test.YtonnimbcekhbgaaGreatDoorWCToPD

/- A pattern that is a row of pieces is read; its instructions as a chain: contracts. -/
namespace Go.Proofs.YtonnimbcekhbgaaGreatDoor
open Go.RowKit

theorem reads_row {src : ByteArray} {fr : Nat} {pcs : List Pc} (hlen : pcs.length ≤ 200) (hp : ∀ b, b ≠ 0 → RowOk b src 0 fr (pcs.map Pc.val)) :
    Reads src fr 0 (1 + pcs.length) (rowBegin pcs.reverse 1 0) 0 (ins0 6 0 0 0 0 ++ rowCode 0 pcs.reverse 1 0) := by
  intro w b hb hr hw
  refine (whole_row hr hw hb (hp b hb) (by simp; omega)).mono ?_
  rintro e w1 ⟨q, v, rfl, hq1, hq2, hq3, own1, r1, k1⟩
  rw [List.length_map] at own1
  refine ⟨_, pcs.length, rfl, r1, k1, by omega, ?_, ?_⟩
  · intro w2 k2
    exact branches_size_row ((k2.cell (p := ⟨q, 0, none⟩) hq2 (by simp)).trans hq3) (ownsRow_keep own1 k2 (by simp)) hlen
  · intro w2 L k2 hL w4 b4 l4
    have := branches_emit_row l4 (by omega) 0 ((b4.cell (p := ⟨q, 0, none⟩) (by show q < L; omega)).trans ((k2.cell (p := ⟨q, 0, none⟩) hq2 (by simp)).trans hq3)) (owns_of_block (ownsRow_keep own1 k2 (by simp)) (fun kk hkk _ => b4.block kk (by have := (own1.lt kk hkk).2; omega))) hlen (fun g hg => by have := (own1.lt g hg).2; omega)
    exact this
end Go.Proofs.YtonnimbcekhbgaaGreatDoor

/- A row of pieces: its instructions as a chain. -/
namespace Go.Proofs.YtonnimbcekhbgaaGreatDoor
open Go.RowKit

/-- The code of a row. -/
def cdOf (pcs : List Pc) (i : Nat) : In :=
  if i = 0 then ⟨6, 0, 0, 0, 0, noBytes⟩ else match pcs.reverse[i - 1]? with
    | some p => if p.kind = 0 then ⟨0, i - 1, 0, 0, 0, p.m⟩ else ⟨p.kind, i - 1, 0, 0, 0, noBytes⟩
    | none => ⟨6, 0, 0, 0, 0, noBytes⟩

theorem rowBegin_eq : ∀ (ps : List Pc) (n : Nat) (next : Int), rowBegin ps n next = if ps = [] then next else ((n + ps.length - 1 : Nat) : Int)
  | [], _, _ => rfl
  | p :: ps, n, next => by
    have hne : p :: ps ≠ [] := by simp
    rw [rowBegin, rowBegin_eq ps (n + 1) n]
    by_cases h : ps = []
    · subst h; simp
    · rw [if_neg h, if_neg hne, List.length_cons]
      congr 1; omega

theorem pc_ins_len (p : Pc) (next : Int) (d : Nat) : (p.ins next d).length = 9 := by unfold Pc.ins; split <;> rfl

theorem rowCode_at (d : Nat) : ∀ (ps : List Pc) (n : Nat) (next : Int) (i : Nat) (p : Pc), ps[i]? = some p → ∀ j, j < 9 → (rowCode d ps n next)[i * 9 + j]? = (p.ins (if i = 0 then next else ((n + i - 1 : Nat) : Int)) d)[j]?
  | q :: ps, n, next, 0, p, h, j, hj => by
    have e : q = p := by simpa using h
    subst e
    rw [rowCode, Nat.zero_mul, Nat.zero_add, List.getElem?_append_left (by rw [pc_ins_len]; exact hj), if_pos rfl]
  | q :: ps, n, next, i + 1, p, h, j, hj => by
    have e : ps[i]? = some p := by simpa using h
    rw [rowCode, List.getElem?_append_right (by rw [pc_ins_len]; omega), pc_ins_len, show (i + 1) * 9 + j - 9 = i * 9 + j by omega, rowCode_at d ps (n + 1) n i p e j hj]
    congr 2
    by_cases h0 : i = 0
    · subst h0; simp
    · rw [if_neg h0, if_neg (by omega)]; congr 1; omega

theorem cd_of {B : Nat} {w : World} {p : Nat} {bg : Int} {pcs : List Pc} (pt : PtR B w p (1 + pcs.length) bg 0 0 (ins0 6 0 0 0 0 ++ rowCode 0 pcs.reverse 1 0)) (hk : ∀ q ∈ pcs, q.kind ≤ 2) :
    ∃ g c, Cd w p g c (1 + pcs.length) 0 (cdOf pcs) := by
  obtain ⟨g, c, h1, h2⟩ := pt.code
  have hl := (h2.lt g rfl).2
  have hz : ∀ i, wd noBytes i = 0 := wd_none
  have cell : ∀ a, a < 1 + pcs.length → ∀ j, j < 9 → w.cell? ⟨g, a * 9 + j, none⟩ = [Value.int .i64 (cdOf pcs a).kind, .int .i64 (cdOf pcs a).nx, .int .i64 (cdOf pcs a).ot, .int .i64 (cdOf pcs a).sl, .int .i64 (cdOf pcs a).dp, .int .u64 (wd (cdOf pcs a).m 0), .int .u64 (wd (cdOf pcs a).m 1), .int .u64 (wd (cdOf pcs a).m 2), .int .u64 (wd (cdOf pcs a).m 3)][j]? := by
    intro a ha j hj
    have hget : w.cell? ⟨g, a * 9 + j, none⟩ = (ins0 6 0 0 0 0 ++ rowCode 0 pcs.reverse 1 0)[a * 9 + j]? := h2.cellAt (a * 9 + j) (by omega)
    rw [hget]
    match a, ha with
    | 0, _ =>
      rw [Nat.zero_mul, Nat.zero_add, List.getElem?_append_left (by show j < 9; exact hj)]
      have e : cdOf pcs 0 = ⟨6, 0, 0, 0, 0, noBytes⟩ := by unfold cdOf; rw [if_pos rfl]
      rw [e]
      simp only [hz]
      rfl
    | i + 1, ha =>
      obtain ⟨q, hq⟩ : ∃ q, pcs.reverse[i]? = some q := ⟨pcs.reverse[i]'(by simp; omega), List.getElem?_eq_getElem (by simp; omega)⟩
      rw [List.getElem?_append_right (by show 9 ≤ _; omega), show (i + 1) * 9 + j - (ins0 6 0 0 0 0).length = i * 9 + j by show (i + 1) * 9 + j - 9 = _; omega, rowCode_at 0 pcs.reverse 1 0 i q hq j hj]
      have enx : (if i = 0 then (0 : Int) else ((1 + i - 1 : Nat) : Int)) = ((i : Nat) : Int) := by
        by_cases h0 : i = 0
        · subst h0; rfl
        · rw [if_neg h0]; congr 1; omega
      rw [enx]
      have e : cdOf pcs (i + 1) = if q.kind = 0 then ⟨0, i, 0, 0, 0, q.m⟩ else ⟨q.kind, i, 0, 0, 0, noBytes⟩ := by
        unfold cdOf
        rw [if_neg (by omega), show i + 1 - 1 = i by omega, hq]
      rw [e]
      unfold Pc.ins
      by_cases h0 : q.kind = 0
      · rw [if_pos h0, if_pos h0]; rfl
      · rw [if_neg h0, if_neg h0]
        simp only [hz]
        rfl
  have good : ∀ a, a < 1 + pcs.length → (cdOf pcs a).kind ≤ 6 ∧ (cdOf pcs a).nx < 1 + pcs.length ∧ (cdOf pcs a).ot < 1 + pcs.length ∧ (cdOf pcs a).sl < 20 ∧ (cdOf pcs a).dp ≤ 0 := by
    intro a ha
    match a, ha with
    | 0, _ => unfold cdOf; rw [if_pos rfl]; simp; omega
    | i + 1, ha =>
      obtain ⟨q, hq⟩ : ∃ q, pcs.reverse[i]? = some q := ⟨pcs.reverse[i]'(by simp; omega), List.getElem?_eq_getElem (by simp; omega)⟩
      have hm : q ∈ pcs := List.mem_reverse.1 (List.mem_of_getElem? hq)
      have := hk q hm
      unfold cdOf
      rw [if_neg (by omega), show i + 1 - 1 = i by omega, hq]
      by_cases h0 : q.kind = 0
      · simp only [h0, if_true]; simp; omega
      · simp only [h0, if_false]; simp; omega
  exact ⟨g, c, ⟨pt.lt, hl, h1, pt.c3, fun a ha => cell a ha 0 (by omega), fun a ha => cell a ha 1 (by omega), fun a ha => cell a ha 2 (by omega), fun a ha => cell a ha 3 (by omega), fun a ha => cell a ha 4 (by omega), fun a ha => cell a ha 5 (by omega), fun a ha => cell a ha 6 (by omega), fun a ha => cell a ha 7 (by omega), fun a ha => cell a ha 8 (by omega), good⟩⟩
end Go.Proofs.YtonnimbcekhbgaaGreatDoor
