/- What the claim needs of: RDToRE RF LC LD. -/
import Derived.Test.YtonnimbcekhbgaaGreatDoorX35
import Derived.Test.YtonnimbcekhbgaaGreatDoorX32

/- RDToRE. -/
namespace Go.Proofs.YtonnimbcekhbgaaGreatDoor
open Go.RowKit

theorem reads_row {src : ByteArray} {fr : Nat} {pcs : List Pc} (hlen : pcs.length ≤ 200) (hp : ∀ b, b ≠ 0 → RowOk b src 0 fr (pcs.map Pc.val)) :
    Reads src fr 0 (1 + pcs.length) (rowBegin pcs.reverse 1 0) 0 (ins0 6 0 0 0 0 ++ rowCode 0 pcs.reverse 1 0) := by
  intro w b hb hr hw
  refine (whole_row hr hw hb (hp b hb) (by simp; omega)).mono ?_
  rintro e w1 ⟨q, v, rfl, hq1, hq2, hq3, own1, r1, k1⟩
  rw [List.length_map] at own1
  refine ⟨_, pcs.length, rfl, r1, k1, by omega, ?_, ?_⟩
  · intro w2 k2
    exact branches_size_row ((k2.cell (p := ⟨q, 0, none⟩) hq2 (by simp)).trans hq3) (ownsRow_keep own1 k2 (by simp)) hlen
  · intro w2 L k2 hL w4 b4 l4
    have := branches_emit_row l4 (by omega) 0 ((b4.cell (p := ⟨q, 0, none⟩) (by show q < L; omega)).trans ((k2.cell (p := ⟨q, 0, none⟩) hq2 (by simp)).trans hq3)) (owns_of_block (ownsRow_keep own1 k2 (by simp)) (fun kk hkk _ => b4.block kk (by have := (own1.lt kk hkk).2; omega))) hlen (fun g hg => by have := (own1.lt g hg).2; omega)
    exact this
end Go.Proofs.YtonnimbcekhbgaaGreatDoor

/- A row of pieces: its instructions as a chain. -/
namespace Go.Proofs.YtonnimbcekhbgaaGreatDoor
open Go.RowKit

/-- The code of a row. -/
def cdOf (pcs : List Pc) (i : Nat) : In :=
  if i = 0 then ⟨6, 0, 0, 0, 0, noBytes⟩ else match pcs.reverse[i - 1]? with
    | some p => if p.kind = 0 then ⟨0, i - 1, 0, 0, 0, p.m⟩ else ⟨p.kind, i - 1, 0, 0, 0, noBytes⟩
    | none => ⟨6, 0, 0, 0, 0, noBytes⟩

theorem rowBegin_eq : ∀ (ps : List Pc) (n : Nat) (next : Int), rowBegin ps n next = if ps = [] then next else ((n + ps.length - 1 : Nat) : Int)
  | [], _, _ => rfl
  | p :: ps, n, next => by
    have hne : p :: ps ≠ [] := by simp
    rw [rowBegin, rowBegin_eq ps (n + 1) n]
    by_cases h : ps = []
    · subst h; simp
    · rw [if_neg h, if_neg hne, List.length_cons]
      congr 1; omega

theorem pc_ins_len (p : Pc) (next : Int) (d : Nat) : (p.ins next d).length = 9 := by unfold Pc.ins; split <;> rfl

theorem rowCode_at (d : Nat) : ∀ (ps : List Pc) (n : Nat) (next : Int) (i : Nat) (p : Pc), ps[i]? = some p → ∀ j, j < 9 → (rowCode d ps n next)[i * 9 + j]? = (p.ins (if i = 0 then next else ((n + i - 1 : Nat) : Int)) d)[j]?
  | q :: ps, n, next, 0, p, h, j, hj => by
    have e : q = p := by simpa using h
    subst e
    rw [rowCode, Nat.zero_mul, Nat.zero_add, List.getElem?_append_left (by rw [pc_ins_len]; exact hj), if_pos rfl]
  | q :: ps, n, next, i + 1, p, h, j, hj => by
    have e : ps[i]? = some p := by simpa using h
    rw [rowCode, List.getElem?_append_right (by rw [pc_ins_len]; omega), pc_ins_len, show (i + 1) * 9 + j - 9 = i * 9 + j by omega, rowCode_at d ps (n + 1) n i p e j hj]
    congr 2
    by_cases h0 : i = 0
    · subst h0; simp
    · rw [if_neg h0, if_neg (by omega)]; congr 1; omega

theorem cd_of {B : Nat} {w : World} {p : Nat} {bg : Int} {pcs : List Pc} (pt : PtR B w p (1 + pcs.length) bg 0 0 (ins0 6 0 0 0 0 ++ rowCode 0 pcs.reverse 1 0)) (hk : ∀ q ∈ pcs, q.kind ≤ 2) :
    ∃ g c, Cd w p g c (1 + pcs.length) 0 (cdOf pcs) := by
  obtain ⟨g, c, h1, h2⟩ := pt.code
  have hl := (h2.lt g rfl).2
  have hz : ∀ i, wd noBytes i = 0 := wd_none
  have cell : ∀ a, a < 1 + pcs.length → ∀ j, j < 9 → w.cell? ⟨g, a * 9 + j, none⟩ = [Value.int .i64 (cdOf pcs a).kind, .int .i64 (cdOf pcs a).nx, .int .i64 (cdOf pcs a).ot, .int .i64 (cdOf pcs a).sl, .int .i64 (cdOf pcs a).dp, .int .u64 (wd (cdOf pcs a).m 0), .int .u64 (wd (cdOf pcs a).m 1), .int .u64 (wd (cdOf pcs a).m 2), .int .u64 (wd (cdOf pcs a).m 3)][j]? := by
    intro a ha j hj
    have hget : w.cell? ⟨g, a * 9 + j, none⟩ = (ins0 6 0 0 0 0 ++ rowCode 0 pcs.reverse 1 0)[a * 9 + j]? := h2.cellAt (a * 9 + j) (by omega)
    rw [hget]
    match a, ha with
    | 0, _ =>
      rw [Nat.zero_mul, Nat.zero_add, List.getElem?_append_left (by show j < 9; exact hj)]
      have e : cdOf pcs 0 = ⟨6, 0, 0, 0, 0, noBytes⟩ := by unfold cdOf; rw [if_pos rfl]
      rw [e]
      simp only [hz]
      rfl
    | i + 1, ha =>
      obtain ⟨q, hq⟩ : ∃ q, pcs.reverse[i]? = some q := ⟨pcs.reverse[i]'(by simp; omega), List.getElem?_eq_getElem (by simp; omega)⟩
      rw [List.getElem?_append_right (by show 9 ≤ _; omega), show (i + 1) * 9 + j - (ins0 6 0 0 0 0).length = i * 9 + j by show (i + 1) * 9 + j - 9 = _; omega, rowCode_at 0 pcs.reverse 1 0 i q hq j hj]
      have enx : (if i = 0 then (0 : Int) else ((1 + i - 1 : Nat) : Int)) = ((i : Nat) : Int) := by
        by_cases h0 : i = 0
        · subst h0; rfl
        · rw [if_neg h0]; congr 1; omega
      rw [enx]
      have e : cdOf pcs (i + 1) = if q.kind = 0 then ⟨0, i, 0, 0, 0, q.m⟩ else ⟨q.kind, i, 0, 0, 0, noBytes⟩ := by
        unfold cdOf
        rw [if_neg (by omega), show i + 1 - 1 = i by omega, hq]
      rw [e]
      unfold Pc.ins
      by_cases h0 : q.kind = 0
      · rw [if_pos h0, if_pos h0]; rfl
      · rw [if_neg h0, if_neg h0]
        simp only [hz]
        rfl
  have good : ∀ a, a < 1 + pcs.length → (cdOf pcs a).kind ≤ 6 ∧ (cdOf pcs a).nx < 1 + pcs.length ∧ (cdOf pcs a).ot < 1 + pcs.length ∧ (cdOf pcs a).sl < 20 ∧ (cdOf pcs a).dp ≤ 0 := by
    intro a ha
    match a, ha with
    | 0, _ => unfold cdOf; rw [if_pos rfl]; simp; omega
    | i + 1, ha =>
      obtain ⟨q, hq⟩ : ∃ q, pcs.reverse[i]? = some q := ⟨pcs.reverse[i]'(by simp; omega), List.getElem?_eq_getElem (by simp; omega)⟩
      have hm : q ∈ pcs := List.mem_reverse.1 (List.mem_of_getElem? hq)
      have := hk q hm
      unfold cdOf
      rw [if_neg (by omega), show i + 1 - 1 = i by omega, hq]
      by_cases h0 : q.kind = 0
      · simp only [h0, if_true]; simp; omega
      · simp only [h0, if_false]; simp; omega
  exact ⟨g, c, ⟨pt.lt, hl, h1, pt.c3, fun a ha => cell a ha 0 (by omega), fun a ha => cell a ha 1 (by omega), fun a ha => cell a ha 2 (by omega), fun a ha => cell a ha 3 (by omega), fun a ha => cell a ha 4 (by omega), fun a ha => cell a ha 5 (by omega), fun a ha => cell a ha 6 (by omega), fun a ha => cell a ha 7 (by omega), fun a ha => cell a ha 8 (by omega), good⟩⟩
end Go.Proofs.YtonnimbcekhbgaaGreatDoor

/- RF. -/
namespace Go.Proofs.YtonnimbcekhbgaaGreatDoor
open Go.RowKit

/-- The pieces of a row of L bytes, behind the beginning (B = 1) or not, ahead of the end (E = 1) or not. -/
def pcsOf (B E L : Nat) (ms : Nat → Nat → Bool) : List Pc := (if B = 1 then [⟨1, noBytes⟩] else []) ++ ((List.range L).map (fun j => (⟨0, ms j⟩ : Pc)) ++ (if E = 1 then [⟨2, noBytes⟩] else []))

section
variable {B E L : Nat} {ms : Nat → Nat → Bool}
theorem pcsOf_len (hB : B ≤ 1) (hE : E ≤ 1) : (pcsOf B E L ms).length = B + (L + E) := by
  have h1 : (if B = 1 then [(⟨1, noBytes⟩ : Pc)] else []).length = B := by split <;> simp <;> omega
  have h2 : (if E = 1 then [(⟨2, noBytes⟩ : Pc)] else []).length = E := by split <;> simp <;> omega
  unfold pcsOf
  rw [List.length_append, List.length_append, h1, h2]; simp

theorem pcsOf_kind (q : Pc) (h : q ∈ pcsOf B E L ms) : q.kind ≤ 2 := by
  unfold pcsOf at h
  rcases List.mem_append.1 h with h | h
  · split at h
    · rw [List.mem_singleton.1 h]; show 1 ≤ 2; omega
    · cases h
  · rcases List.mem_append.1 h with h | h
    · obtain ⟨j, _, rfl⟩ := List.mem_map.1 h; exact Nat.zero_le _
    · split at h
      · rw [List.mem_singleton.1 h]; exact Nat.le_refl _
      · cases h

theorem pcsOf_byte (hB : B ≤ 1) (j : Nat) (hj : j < L) : (pcsOf B E L ms)[B + j]? = some ⟨0, ms j⟩ := by
  have h1 : (if B = 1 then [(⟨1, noBytes⟩ : Pc)] else []).length = B := by split <;> simp <;> omega
  unfold pcsOf
  rw [List.getElem?_append_right (by omega), h1, Nat.add_sub_cancel_left, List.getElem?_append_left (by simp; exact hj)]
  simp [hj]
theorem pcsOf_begin (hB : B = 1) : (pcsOf B E L ms)[0]? = some ⟨1, noBytes⟩ := by unfold pcsOf; rw [if_pos hB]; rfl
theorem pcsOf_end (hB : B ≤ 1) (hE : E = 1) : (pcsOf B E L ms)[B + L]? = some ⟨2, noBytes⟩ := by
  have h1 : (if B = 1 then [(⟨1, noBytes⟩ : Pc)] else []).length = B := by split <;> simp <;> omega
  unfold pcsOf
  rw [List.getElem?_append_right (by omega), h1, Nat.add_sub_cancel_left, List.getElem?_append_right (by simp), if_pos hE]
  simp

theorem cdOf_at {pcs : List Pc} {i : Nat} {q : Pc} (hi : i < pcs.length) (h : pcs[pcs.length - 1 - i]? = some q) : cdOf pcs (i + 1) = if q.kind = 0 then ⟨0, i, 0, 0, 0, q.m⟩ else ⟨q.kind, i, 0, 0, 0, noBytes⟩ := by
  unfold cdOf
  rw [if_neg (by omega), show i + 1 - 1 = i by omega, List.getElem?_reverse hi, h]

theorem chain_of (hB : B ≤ 1) (hE : E ≤ 1) : Chain (cdOf (pcsOf B E L ms)) B E L ms := by
  have hl := pcsOf_len (L := L) (ms := ms) hB hE
  refine ⟨hB, hE, ?_, fun h => ?_, fun j hj => ?_, fun h => ?_⟩
  · unfold cdOf; rw [if_pos rfl]
  · have := cdOf_at (pcs := pcsOf B E L ms) (i := 0) (q := ⟨2, noBytes⟩) (by omega) (by rw [hl, show B + (L + E) - 1 - 0 = B + L by omega]; exact pcsOf_end hB h)
    rw [this]; exact ⟨rfl, rfl⟩
  · have := cdOf_at (pcs := pcsOf B E L ms) (i := E + L - j - 1) (q := ⟨0, ms j⟩) (by omega) (by rw [hl, show B + (L + E) - 1 - (E + L - j - 1) = B + j by omega]; exact pcsOf_byte hB j hj)
    rw [show E + L - j - 1 + 1 = E + L - j by omega] at this
    rw [this]; exact ⟨rfl, rfl, rfl, rfl⟩
  · have := cdOf_at (pcs := pcsOf B E L ms) (i := E + L) (q := ⟨1, noBytes⟩) (by omega) (by rw [hl, show B + (L + E) - 1 - (E + L) = 0 by omega]; exact pcsOf_begin h)
    rw [this]; exact ⟨rfl, rfl⟩
end

theorem cdOf_kind (pcs : List Pc) (hk : ∀ q ∈ pcs, q.kind ≤ 2) (a : Nat) (ha : a < 1 + pcs.length) : (cdOf pcs a).kind ≤ 2 ∨ (cdOf pcs a).kind = 6 := by
  match a, ha with
  | 0, _ => right; unfold cdOf; rw [if_pos rfl]
  | i + 1, ha =>
    left
    obtain ⟨q, hq⟩ : ∃ q, pcs.reverse[i]? = some q := ⟨pcs.reverse[i]'(by simp; omega), List.getElem?_eq_getElem (by simp; omega)⟩
    have hm : q ∈ pcs := List.mem_reverse.1 (List.mem_of_getElem? hq)
    have := hk q hm
    unfold cdOf
    rw [if_neg (by omega), show i + 1 - 1 = i by omega, hq]
    by_cases h0 : q.kind = 0
    · simp only [h0, if_true]; omega
    · simp only [h0, if_false]; omega
end Go.Proofs.YtonnimbcekhbgaaGreatDoor

/- LC. -/
namespace Go.Proofs.YtonnimbcekhbgaaGreatDoor
open Go.RowKit

theorem saw_list (l : List UInt8) (k : Nat) (x : Int) : saw ⟨l.toArray⟩ k x = match l[k]? with
    | some c => ((c.toNat : Int) == x)
    | none => false := by
  unfold saw
  by_cases h : k < l.length
  · have h' : k < (ByteArray.mk l.toArray).size := by show k < l.toArray.size; simpa using h
    rw [dif_pos h', List.getElem?_eq_getElem h]
    rfl
  · have h' : ¬ k < (ByteArray.mk l.toArray).size := by show ¬ k < l.toArray.size; simpa using h
    rw [dif_neg h', List.getElem?_eq_none (by omega)]

theorem plain_facts : ∀ c : Fin 256, isSpec (UInt8.ofNat c) = false → UInt8.ofNat c ≠ 10 → (c.val ≠ 92 ∧ c.val ≠ 94 ∧ c.val ≠ 36 ∧ c.val ≠ 40 ∧ c.val ≠ 46 ∧ c.val ≠ 91 ∧ c.val ≠ 42 ∧ c.val ≠ 43 ∧ c.val ≠ 63 ∧ c.val ≠ 123 ∧ c.val ≠ 124 ∧ c.val ≠ 41 ∧ c.val ≠ 10) ∧ Lib.indexByte special.data.toList (UInt8.ofNat c) = -1 := by decide +kernel
theorem spec_facts : ∀ c : Fin 256, isSpec (UInt8.ofNat c) = true → c.val ≠ 110 ∧ c.val ≠ 116 ∧ 0 ≤ Lib.indexByte escaped.data.toList (UInt8.ofNat c) := by decide +kernel

theorem plain_of {c : UInt8} (h1 : isSpec c = false) (h2 : c ≠ 10) : (c.toNat ≠ 92 ∧ c.toNat ≠ 94 ∧ c.toNat ≠ 36 ∧ c.toNat ≠ 40 ∧ c.toNat ≠ 46 ∧ c.toNat ≠ 91 ∧ c.toNat ≠ 42 ∧ c.toNat ≠ 43 ∧ c.toNat ≠ 63 ∧ c.toNat ≠ 123 ∧ c.toNat ≠ 124 ∧ c.toNat ≠ 41 ∧ c.toNat ≠ 10) ∧ Lib.indexByte special.data.toList c = -1 := by
  have hc : UInt8.ofNat (⟨c.toNat, c.toNat_lt⟩ : Fin 256) = c := by simp
  have := plain_facts ⟨c.toNat, c.toNat_lt⟩ (by rw [hc]; exact h1) (by rw [hc]; exact h2)
  rw [hc] at this
  exact this
theorem spec_of {c : UInt8} (h1 : isSpec c = true) : c.toNat ≠ 110 ∧ c.toNat ≠ 116 ∧ 0 ≤ Lib.indexByte escaped.data.toList c := by
  have hc : UInt8.ofNat (⟨c.toNat, c.toNat_lt⟩ : Fin 256) = c := by simp
  have := spec_facts ⟨c.toNat, c.toNat_lt⟩ (by rw [hc]; exact h1)
  rw [hc] at this
  exact this

/-- What may stand behind a byte: nothing, the end's sign, or the beginning of another byte. -/
def goodHead : Option UInt8 → Bool
  | none => true
  | some c => decide (c.toNat ≠ 42 ∧ c.toNat ≠ 43 ∧ c.toNat ≠ 63 ∧ c.toNat ≠ 123)

theorem quote_head (c : UInt8) (r : List UInt8) : goodHead (quote1 c ++ r).head? = true := by
  unfold quote1
  split
  · rfl
  · split
    · rfl
    · rename_i h1 h2
      have := (plain_of (by simpa using h2) h1).1
      simp [goodHead, this]

/-- The value of a byte's piece. -/
abbrev byteV (c : UInt8) : Value := oneV (span noBytes c.toNat (c.toNat + 1))

theorem getElem?_of_drop {l r : List UInt8} {k j : Nat} (h : l.drop k = r) : l[k + j]? = r[j]? := by rw [← h, List.getElem?_drop]

theorem saw_no {l r : List UInt8} {k j : Nat} {x : Int} (h : l.drop k = r) (hx : ∀ c, r[j]? = some c → ¬ (c.toNat : Int) = x) : saw ⟨l.toArray⟩ (k + j) x = false := by
  rw [saw_list, getElem?_of_drop h]
  match hr : r[j]? with
  | none => rfl
  | some c =>
    have := hx c hr
    simp [this]
theorem saw_is {l r : List UInt8} {k j : Nat} {c : UInt8} (h : l.drop k = r) (hr : r[j]? = some c) : saw ⟨l.toArray⟩ (k + j) (c.toNat : Int) = true := by
  rw [saw_list, getElem?_of_drop h, hr]; simp

theorem at_is {l r : List UInt8} {k j : Nat} {c : UInt8} (h : l.drop k = r) (hr : r[j]? = some c) : ∃ hk : k + j < (ByteArray.mk l.toArray).size, (ByteArray.mk l.toArray)[k + j]'hk = c := by
  have e := (getElem?_of_drop (j := j) h).trans hr
  obtain ⟨hlt, hv⟩ := List.getElem?_eq_some_iff.1 e
  exact ⟨by show k + j < l.toArray.size; simpa using hlt, hv⟩

/-- The piece of a byte, as it is written. -/
theorem piece_quote {b g k : Nat} {l r : List UInt8} {c : UInt8} (h : l.drop k = quote1 c ++ r) (hr : goodHead r.head? = true) :
    PieceOk b ⟨l.toArray⟩ k (k + (quote1 c).length) g (byteV c) ∧ saw ⟨l.toArray⟩ k 124 = false ∧ saw ⟨l.toArray⟩ k 41 = false := by
  have tail : ∀ x : Int, x = 42 ∨ x = 43 ∨ x = 63 ∨ x = 123 → saw ⟨l.toArray⟩ (k + (quote1 c).length) x = false := fun x hx => by
    refine saw_no h (fun d hd => ?_)
    rw [List.getElem?_append_right (Nat.le_refl _), Nat.sub_self] at hd
    have hd' : r.head? = some d := by rw [← List.head?_eq_getElem?] at hd; exact hd
    rw [hd'] at hr
    simp only [goodHead, decide_eq_true_eq] at hr
    omega
  have t1 := tail 42 (by omega)
  have t2 := tail 43 (by omega)
  have t3 := tail 63 (by omega)
  have t4 := tail 123 (by omega)
  have at0 : ∀ x : Int, (∀ d, (quote1 c ++ r)[0]? = some d → ¬ (d.toNat : Int) = x) → saw ⟨l.toArray⟩ k x = false := fun x hx => by
    have := saw_no (j := 0) h hx
    rwa [Nat.add_zero] at this
  by_cases h10 : c = 10
  · have e : quote1 c = [92, 110] := by unfold quote1; rw [if_pos h10]
    rw [e] at h t1 t2 t3 t4 at0 ⊢
    have hd : ∀ x : Int, ¬ (92 : Int) = x → saw ⟨l.toArray⟩ k x = false := fun x hx => at0 x (fun d hd => by
      have : (92 : UInt8) = d := by simpa using hd
      rw [← this]; exact hx)
    have s0 : saw ⟨l.toArray⟩ k 92 = true := saw_is (j := 0) (c := 92) h rfl
    have s1 : saw ⟨l.toArray⟩ (k + 1) 110 = true := saw_is (j := 1) (c := 110) h rfl
    subst h10
    exact ⟨piece_byte (by decide) (hd _ (by omega)) (hd _ (by omega)) (hd _ (by omega)) (hd _ (by omega)) (hd _ (by omega)) (byte_n s0 s1) t1 t2 t3 t4, hd _ (by omega), hd _ (by omega)⟩
  · by_cases hsp : isSpec c = true
    · have e : quote1 c = [92, c] := by unfold quote1; rw [if_neg h10, if_pos hsp]
      rw [e] at h t1 t2 t3 t4 at0 ⊢
      have hd : ∀ x : Int, ¬ (92 : Int) = x → saw ⟨l.toArray⟩ k x = false := fun x hx => at0 x (fun d hd => by
        have : (92 : UInt8) = d := by simpa using hd
        rw [← this]; exact hx)
      have s0 : saw ⟨l.toArray⟩ k 92 = true := saw_is (j := 0) (c := 92) h rfl
      have sp := spec_of hsp
      obtain ⟨hk, hv⟩ := at_is (j := 1) (c := c) h rfl
      have n1 : saw ⟨l.toArray⟩ (k + 1) 110 = false := saw_no (j := 1) h (fun d hd => by
        have : c = d := by simpa using hd
        rw [← this]; omega)
      have n2 : saw ⟨l.toArray⟩ (k + 1) 116 = false := saw_no (j := 1) h (fun d hd => by
        have : c = d := by simpa using hd
        rw [← this]; omega)
      have bo := byte_c (b := b) (g := g) (barred := special) (behind := escaped) s0 hk n1 n2 rfl (by rw [hv]; exact sp.2.2)
      rw [hv] at bo
      exact ⟨piece_byte c.toNat_lt (hd _ (by omega)) (hd _ (by omega)) (hd _ (by omega)) (hd _ (by omega)) (hd _ (by omega)) bo t1 t2 t3 t4, hd _ (by omega), hd _ (by omega)⟩
    · have e : quote1 c = [c] := by unfold quote1; rw [if_neg h10, if_neg hsp]
      rw [e] at h t1 t2 t3 t4 at0 ⊢
      have pl := plain_of (by simpa using hsp) h10
      have hd : ∀ x : Int, ¬ (c.toNat : Int) = x → saw ⟨l.toArray⟩ k x = false := fun x hx => at0 x (fun d hd => by
        have : c = d := by simpa using hd
        rw [← this]; exact hx)
      obtain ⟨hk, hv⟩ := at_is (j := 0) (c := c) h rfl
      have bo := byte_plain (b := b) (g := g) (barred := special) (behind := escaped) hk (hd _ (by omega)) (hd _ (by omega)) (by rw [hv]; exact pl.2)
      rw [hv] at bo
      exact ⟨piece_byte c.toNat_lt (hd _ (by omega)) (hd _ (by omega)) (hd _ (by omega)) (hd _ (by omega)) (hd _ (by omega)) bo t1 t2 t3 t4, hd _ (by omega), hd _ (by omega)⟩

/-- The bytes of a row, and what comes behind them. -/
theorem rowOk_bytes {b g : Nat} {l post : List UInt8} {vs : List Value} (hpost : goodHead post.head? = true) : ∀ (t : List UInt8) (k : Nat), l.drop k = t.flatMap quote1 ++ post → RowOk b ⟨l.toArray⟩ g (k + (t.flatMap quote1).length) vs → RowOk b ⟨l.toArray⟩ g k (t.map byteV ++ vs)
  | [], k, _, h2 => by simpa using h2
  | c :: t, k, h1, h2 => by
    rw [List.flatMap_cons, List.append_assoc] at h1
    have hh : goodHead (t.flatMap quote1 ++ post).head? = true := by
      match t with
      | [] => simpa using hpost
      | d :: t => rw [List.flatMap_cons, List.append_assoc]; exact quote_head _ _
    obtain ⟨p1, p2, p3⟩ := piece_quote (b := b) (g := g) h1 hh
    have hq : 0 < (quote1 c).length := by unfold quote1; split <;> (try split) <;> simp
    have hlen : k < l.length := by
      have := congrArg List.length h1
      rw [List.length_drop, List.length_append] at this
      omega
    refine ⟨by show k < l.toArray.size; simpa using hlen, p2, p3, ⟨_, _, rfl⟩, k + (quote1 c).length, by omega, p1, rowOk_bytes hpost t _ ?_ ?_⟩
    · rw [← List.drop_drop, h1, List.drop_left]
    · rw [List.flatMap_cons, List.length_append, ← Nat.add_assoc] at h2; exact h2
end Go.Proofs.YtonnimbcekhbgaaGreatDoor

/- LD. -/
namespace Go.Proofs.YtonnimbcekhbgaaGreatDoor
open Go.RowKit

/-- The sets of a text's bytes. -/
def msOf (t : List UInt8) (j : Nat) : Nat → Bool := match t[j]? with
  | some c => span noBytes c.toNat (c.toNat + 1)
  | none => noBytes

theorem vals_bytes (t : List UInt8) : (List.range t.length).map (fun j => (⟨0, msOf t j⟩ : Pc).val) = t.map byteV := by
  apply List.ext_getElem
  · simp
  · intro j h1 h2
    have hj : j < t.length := by simpa using h2
    have e : (⟨0, msOf t j⟩ : Pc).val = oneV (msOf t j) := by unfold Pc.val; rw [if_pos rfl]
    simp only [List.getElem_map, List.getElem_range]
    rw [e]
    unfold msOf
    rw [List.getElem?_eq_getElem hj]

theorem vals_of (B E : Nat) (t : List UInt8) : (pcsOf B E t.length (msOf t)).map Pc.val = (if B = 1 then [edgeV 1] else []) ++ (t.map byteV ++ (if E = 1 then [edgeV 2] else [])) := by
  unfold pcsOf
  rw [List.map_append, List.map_append, List.map_map, ← vals_bytes]
  have e1 : (if B = 1 then [(⟨1, noBytes⟩ : Pc)] else []).map Pc.val = if B = 1 then [edgeV 1] else [] := by split <;> rfl
  have e2 : (if E = 1 then [(⟨2, noBytes⟩ : Pc)] else []).map Pc.val = if E = 1 then [edgeV 2] else [] := by split <;> rfl
  rw [e1, e2]; rfl

/-- The bytes of a text stand from a place on, one by one. -/
theorem pre_iff (t : List UInt8) (text : ByteArray) (a : Nat) : ∀ j, j ≤ t.length → (pre (msOf t) text a j = true ↔ ∀ i, i < j → ∃ h : a + i < text.size, t[i]? = some (text[a + i]'h))
  | 0, _ => by simp [pre]
  | j + 1, hj => by
    rw [pre, Bool.and_eq_true, pre_iff t text a j (by omega)]
    have hjt : j < t.length := by omega
    have last : (if h : a + j < text.size then msOf t j (text[a + j]'h).toNat else false) = true ↔ ∃ h : a + j < text.size, t[j]? = some (text[a + j]'h) := by
      by_cases h : a + j < text.size
      · rw [dif_pos h]
        unfold msOf
        rw [List.getElem?_eq_getElem hjt]
        simp only [span, noBytes, Bool.false_or, Bool.and_eq_true, decide_eq_true_eq]
        constructor
        · intro q
          refine ⟨h, ?_⟩
          congr 1
          apply UInt8.toNat_inj.1; omega
        · rintro ⟨_, q⟩
          have := Option.some.inj q
          rw [this]; omega
      · rw [dif_neg h]
        constructor
        · intro q; cases q
        · rintro ⟨q, _⟩; exact absurd q h
    rw [last]
    constructor
    · rintro ⟨h1, h2⟩ i hi
      by_cases e : i = j
      · subst e; exact h2
      · exact h1 i (by omega)
    · intro h
      exact ⟨fun i hi => h i (by omega), h j (by omega)⟩

theorem toList_loop (s : ByteArray) : ∀ (n i : Nat) (r : List UInt8), s.size - i = n → ByteArray.toList.loop s i r = r.reverse ++ s.data.toList.drop i
  | 0, i, r, h => by
    rw [ByteArray.toList.loop, if_neg (by omega), List.drop_eq_nil_of_le (by show s.size ≤ i; omega), List.append_nil]
  | n + 1, i, r, h => by
    have hi : i < s.size := by omega
    rw [ByteArray.toList.loop, if_pos hi, toList_loop s n (i + 1) _ (by omega)]
    have e : s.data.toList.drop i = s.get! i :: s.data.toList.drop (i + 1) := by
      have hi' : i < s.data.toList.length := hi
      rw [List.drop_eq_getElem_cons hi']
      congr 1
      show s.data[i] = s.data[i]!
      exact (getElem!_pos s.data i hi).symm
    rw [e]; simp
theorem toList_data (s : ByteArray) : s.toList = s.data.toList := by
  show ByteArray.toList.loop s 0 [] = _
  rw [toList_loop s s.size 0 [] rfl]; rfl

theorem stands_iff (v text : ByteArray) (a : Nat) : standsB text v a = true ↔ a + v.size ≤ text.size ∧ pre (msOf v.data.toList) text a v.size = true := by
  have hvl : v.data.toList.length = v.size := rfl
  unfold standsB
  rw [Bool.and_eq_true, decide_eq_true_eq]
  constructor
  · rintro ⟨h1, h2⟩
    refine ⟨h1, (pre_iff _ _ _ _ (by omega)).2 fun i hi => ⟨by omega, ?_⟩⟩
    rw [toList_data, toList_data, beq_iff_eq, ByteArray.data_extract] at h2
    rw [← h2]
    have hlt : a + i < text.data.size := by show a + i < text.size; omega
    rw [Array.getElem?_toList, Array.getElem?_extract]
    rw [if_pos (by have : text.data.size = text.size := rfl; omega)]
    exact Array.getElem?_eq_getElem hlt
  · rintro ⟨h1, h2⟩
    refine ⟨h1, ?_⟩
    have hp := (pre_iff _ _ _ _ (by omega)).1 h2
    rw [toList_data, toList_data, beq_iff_eq, ByteArray.data_extract]
    apply List.ext_getElem?
    intro i
    by_cases hi : i < v.size
    · obtain ⟨h3, h4⟩ := hp i hi
      rw [h4, Array.getElem?_toList, Array.getElem?_extract, if_pos (by have : text.data.size = text.size := rfl; omega)]
      exact Array.getElem?_eq_getElem h3
    · have e1 : v.data.toList[i]? = none := List.getElem?_eq_none (by omega)
      have e2 : (text.data.extract a (a + v.size)).toList[i]? = none := List.getElem?_eq_none (by rw [Array.length_toList, Array.size_extract]; omega)
      rw [e1, e2]
end Go.Proofs.YtonnimbcekhbgaaGreatDoor
