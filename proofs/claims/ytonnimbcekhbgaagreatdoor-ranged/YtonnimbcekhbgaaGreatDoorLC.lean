/- A text with each byte that means something behind a backslash is read as the row of its bytes. -/
import Derived.Test.YtonnimbcekhbgaaGreatDoorLB
import Derived.Test.YtonnimbcekhbgaaGreatDoorRF
namespace Go.Proofs.YtonnimbcekhbgaaGreatDoor
open Go.RowKit

theorem saw_list (l : List UInt8) (k : Nat) (x : Int) : saw ⟨l.toArray⟩ k x = match l[k]? with
    | some c => ((c.toNat : Int) == x)
    | none => false := by
  unfold saw
  by_cases h : k < l.length
  · have h' : k < (ByteArray.mk l.toArray).size := by show k < l.toArray.size; simpa using h
    rw [dif_pos h', List.getElem?_eq_getElem h]
    rfl
  · have h' : ¬ k < (ByteArray.mk l.toArray).size := by show ¬ k < l.toArray.size; simpa using h
    rw [dif_neg h', List.getElem?_eq_none (by omega)]

theorem plain_facts : ∀ c : Fin 256, isSpec (UInt8.ofNat c) = false → UInt8.ofNat c ≠ 10 → (c.val ≠ 92 ∧ c.val ≠ 94 ∧ c.val ≠ 36 ∧ c.val ≠ 40 ∧ c.val ≠ 46 ∧ c.val ≠ 91 ∧ c.val ≠ 42 ∧ c.val ≠ 43 ∧ c.val ≠ 63 ∧ c.val ≠ 123 ∧ c.val ≠ 124 ∧ c.val ≠ 41 ∧ c.val ≠ 10) ∧ Lib.indexByte special.data.toList (UInt8.ofNat c) = -1 := by decide +kernel
theorem spec_facts : ∀ c : Fin 256, isSpec (UInt8.ofNat c) = true → c.val ≠ 110 ∧ c.val ≠ 116 ∧ 0 ≤ Lib.indexByte escaped.data.toList (UInt8.ofNat c) := by decide +kernel

theorem plain_of {c : UInt8} (h1 : isSpec c = false) (h2 : c ≠ 10) : (c.toNat ≠ 92 ∧ c.toNat ≠ 94 ∧ c.toNat ≠ 36 ∧ c.toNat ≠ 40 ∧ c.toNat ≠ 46 ∧ c.toNat ≠ 91 ∧ c.toNat ≠ 42 ∧ c.toNat ≠ 43 ∧ c.toNat ≠ 63 ∧ c.toNat ≠ 123 ∧ c.toNat ≠ 124 ∧ c.toNat ≠ 41 ∧ c.toNat ≠ 10) ∧ Lib.indexByte special.data.toList c = -1 := by
  have hc : UInt8.ofNat (⟨c.toNat, c.toNat_lt⟩ : Fin 256) = c := by simp
  have := plain_facts ⟨c.toNat, c.toNat_lt⟩ (by rw [hc]; exact h1) (by rw [hc]; exact h2)
  rw [hc] at this
  exact this
theorem spec_of {c : UInt8} (h1 : isSpec c = true) : c.toNat ≠ 110 ∧ c.toNat ≠ 116 ∧ 0 ≤ Lib.indexByte escaped.data.toList c := by
  have hc : UInt8.ofNat (⟨c.toNat, c.toNat_lt⟩ : Fin 256) = c := by simp
  have := spec_facts ⟨c.toNat, c.toNat_lt⟩ (by rw [hc]; exact h1)
  rw [hc] at this
  exact this

/-- What may stand behind a byte: nothing, the end's sign, or the beginning of another byte. -/
def goodHead : Option UInt8 → Bool
  | none => true
  | some c => decide (c.toNat ≠ 42 ∧ c.toNat ≠ 43 ∧ c.toNat ≠ 63 ∧ c.toNat ≠ 123)

theorem quote_head (c : UInt8) (r : List UInt8) : goodHead (quote1 c ++ r).head? = true := by
  unfold quote1
  split
  · rfl
  · split
    · rfl
    · rename_i h1 h2
      have := (plain_of (by simpa using h2) h1).1
      simp [goodHead, this]

/-- The value of a byte's piece. -/
abbrev byteV (c : UInt8) : Value := oneV (span noBytes c.toNat (c.toNat + 1))

theorem getElem?_of_drop {l r : List UInt8} {k j : Nat} (h : l.drop k = r) : l[k + j]? = r[j]? := by rw [← h, List.getElem?_drop]

theorem saw_no {l r : List UInt8} {k j : Nat} {x : Int} (h : l.drop k = r) (hx : ∀ c, r[j]? = some c → ¬ (c.toNat : Int) = x) : saw ⟨l.toArray⟩ (k + j) x = false := by
  rw [saw_list, getElem?_of_drop h]
  match hr : r[j]? with
  | none => rfl
  | some c =>
    have := hx c hr
    simp [this]
theorem saw_is {l r : List UInt8} {k j : Nat} {c : UInt8} (h : l.drop k = r) (hr : r[j]? = some c) : saw ⟨l.toArray⟩ (k + j) (c.toNat : Int) = true := by
  rw [saw_list, getElem?_of_drop h, hr]; simp

theorem at_is {l r : List UInt8} {k j : Nat} {c : UInt8} (h : l.drop k = r) (hr : r[j]? = some c) : ∃ hk : k + j < (ByteArray.mk l.toArray).size, (ByteArray.mk l.toArray)[k + j]'hk = c := by
  have e := (getElem?_of_drop (j := j) h).trans hr
  obtain ⟨hlt, hv⟩ := List.getElem?_eq_some_iff.1 e
  exact ⟨by show k + j < l.toArray.size; simpa using hlt, hv⟩

/-- The piece of a byte, as it is written. -/
theorem piece_quote {b g k : Nat} {l r : List UInt8} {c : UInt8} (h : l.drop k = quote1 c ++ r) (hr : goodHead r.head? = true) :
    PieceOk b ⟨l.toArray⟩ k (k + (quote1 c).length) g (byteV c) ∧ saw ⟨l.toArray⟩ k 124 = false ∧ saw ⟨l.toArray⟩ k 41 = false := by
  have tail : ∀ x : Int, x = 42 ∨ x = 43 ∨ x = 63 ∨ x = 123 → saw ⟨l.toArray⟩ (k + (quote1 c).length) x = false := fun x hx => by
    refine saw_no h (fun d hd => ?_)
    rw [List.getElem?_append_right (Nat.le_refl _), Nat.sub_self] at hd
    have hd' : r.head? = some d := by rw [← List.head?_eq_getElem?] at hd; exact hd
    rw [hd'] at hr
    simp only [goodHead, decide_eq_true_eq] at hr
    omega
  have t1 := tail 42 (by omega)
  have t2 := tail 43 (by omega)
  have t3 := tail 63 (by omega)
  have t4 := tail 123 (by omega)
  have at0 : ∀ x : Int, (∀ d, (quote1 c ++ r)[0]? = some d → ¬ (d.toNat : Int) = x) → saw ⟨l.toArray⟩ k x = false := fun x hx => by
    have := saw_no (j := 0) h hx
    rwa [Nat.add_zero] at this
  by_cases h10 : c = 10
  · have e : quote1 c = [92, 110] := by unfold quote1; rw [if_pos h10]
    rw [e] at h t1 t2 t3 t4 at0 ⊢
    have hd : ∀ x : Int, ¬ (92 : Int) = x → saw ⟨l.toArray⟩ k x = false := fun x hx => at0 x (fun d hd => by
      have : (92 : UInt8) = d := by simpa using hd
      rw [← this]; exact hx)
    have s0 : saw ⟨l.toArray⟩ k 92 = true := saw_is (j := 0) (c := 92) h rfl
    have s1 : saw ⟨l.toArray⟩ (k + 1) 110 = true := saw_is (j := 1) (c := 110) h rfl
    subst h10
    exact ⟨piece_byte (by decide) (hd _ (by omega)) (hd _ (by omega)) (hd _ (by omega)) (hd _ (by omega)) (hd _ (by omega)) (byte_n s0 s1) t1 t2 t3 t4, hd _ (by omega), hd _ (by omega)⟩
  · by_cases hsp : isSpec c = true
    · have e : quote1 c = [92, c] := by unfold quote1; rw [if_neg h10, if_pos hsp]
      rw [e] at h t1 t2 t3 t4 at0 ⊢
      have hd : ∀ x : Int, ¬ (92 : Int) = x → saw ⟨l.toArray⟩ k x = false := fun x hx => at0 x (fun d hd => by
        have : (92 : UInt8) = d := by simpa using hd
        rw [← this]; exact hx)
      have s0 : saw ⟨l.toArray⟩ k 92 = true := saw_is (j := 0) (c := 92) h rfl
      have sp := spec_of hsp
      obtain ⟨hk, hv⟩ := at_is (j := 1) (c := c) h rfl
      have n1 : saw ⟨l.toArray⟩ (k + 1) 110 = false := saw_no (j := 1) h (fun d hd => by
        have : c = d := by simpa using hd
        rw [← this]; omega)
      have n2 : saw ⟨l.toArray⟩ (k + 1) 116 = false := saw_no (j := 1) h (fun d hd => by
        have : c = d := by simpa using hd
        rw [← this]; omega)
      have bo := byte_c (b := b) (g := g) (barred := special) (behind := escaped) s0 hk n1 n2 rfl (by rw [hv]; exact sp.2.2)
      rw [hv] at bo
      exact ⟨piece_byte c.toNat_lt (hd _ (by omega)) (hd _ (by omega)) (hd _ (by omega)) (hd _ (by omega)) (hd _ (by omega)) bo t1 t2 t3 t4, hd _ (by omega), hd _ (by omega)⟩
    · have e : quote1 c = [c] := by unfold quote1; rw [if_neg h10, if_neg hsp]
      rw [e] at h t1 t2 t3 t4 at0 ⊢
      have pl := plain_of (by simpa using hsp) h10
      have hd : ∀ x : Int, ¬ (c.toNat : Int) = x → saw ⟨l.toArray⟩ k x = false := fun x hx => at0 x (fun d hd => by
        have : c = d := by simpa using hd
        rw [← this]; exact hx)
      obtain ⟨hk, hv⟩ := at_is (j := 0) (c := c) h rfl
      have bo := byte_plain (b := b) (g := g) (barred := special) (behind := escaped) hk (hd _ (by omega)) (hd _ (by omega)) (by rw [hv]; exact pl.2)
      rw [hv] at bo
      exact ⟨piece_byte c.toNat_lt (hd _ (by omega)) (hd _ (by omega)) (hd _ (by omega)) (hd _ (by omega)) (hd _ (by omega)) bo t1 t2 t3 t4, hd _ (by omega), hd _ (by omega)⟩

/-- The bytes of a row, and what comes behind them. -/
theorem rowOk_bytes {b g : Nat} {l post : List UInt8} {vs : List Value} (hpost : goodHead post.head? = true) : ∀ (t : List UInt8) (k : Nat), l.drop k = t.flatMap quote1 ++ post → RowOk b ⟨l.toArray⟩ g (k + (t.flatMap quote1).length) vs → RowOk b ⟨l.toArray⟩ g k (t.map byteV ++ vs)
  | [], k, _, h2 => by simpa using h2
  | c :: t, k, h1, h2 => by
    rw [List.flatMap_cons, List.append_assoc] at h1
    have hh : goodHead (t.flatMap quote1 ++ post).head? = true := by
      match t with
      | [] => simpa using hpost
      | d :: t => rw [List.flatMap_cons, List.append_assoc]; exact quote_head _ _
    obtain ⟨p1, p2, p3⟩ := piece_quote (b := b) (g := g) h1 hh
    have hq : 0 < (quote1 c).length := by unfold quote1; split <;> (try split) <;> simp
    have hlen : k < l.length := by
      have := congrArg List.length h1
      rw [List.length_drop, List.length_append] at this
      omega
    refine ⟨by show k < l.toArray.size; simpa using hlen, p2, p3, ⟨_, _, rfl⟩, k + (quote1 c).length, by omega, p1, rowOk_bytes hpost t _ ?_ ?_⟩
    · rw [← List.drop_drop, h1, List.drop_left]
    · rw [List.flatMap_cons, List.length_append, ← Nat.add_assoc] at h2; exact h2
end Go.Proofs.YtonnimbcekhbgaaGreatDoor
