/- A text's bytes as a row, and where it stands (without Match). -/
import Derived.Test.YtonnimbcekhbgaaGreatDoorLC
namespace Go.Proofs.YtonnimbcekhbgaaGreatDoor
open Go.RowKit

/-- The sets of a text's bytes. -/
def msOf (t : List UInt8) (j : Nat) : Nat → Bool := match t[j]? with
  | some c => span noBytes c.toNat (c.toNat + 1)
  | none => noBytes

theorem vals_bytes (t : List UInt8) : (List.range t.length).map (fun j => (⟨0, msOf t j⟩ : Pc).val) = t.map byteV := by
  apply List.ext_getElem
  · simp
  · intro j h1 h2
    have hj : j < t.length := by simpa using h2
    have e : (⟨0, msOf t j⟩ : Pc).val = oneV (msOf t j) := by unfold Pc.val; rw [if_pos rfl]
    simp only [List.getElem_map, List.getElem_range]
    rw [e]
    unfold msOf
    rw [List.getElem?_eq_getElem hj]

theorem vals_of (B E : Nat) (t : List UInt8) : (pcsOf B E t.length (msOf t)).map Pc.val = (if B = 1 then [edgeV 1] else []) ++ (t.map byteV ++ (if E = 1 then [edgeV 2] else [])) := by
  unfold pcsOf
  rw [List.map_append, List.map_append, List.map_map, ← vals_bytes]
  have e1 : (if B = 1 then [(⟨1, noBytes⟩ : Pc)] else []).map Pc.val = if B = 1 then [edgeV 1] else [] := by split <;> rfl
  have e2 : (if E = 1 then [(⟨2, noBytes⟩ : Pc)] else []).map Pc.val = if E = 1 then [edgeV 2] else [] := by split <;> rfl
  rw [e1, e2]; rfl

theorem row_plain (b : Nat) (t : List UInt8) : RowOk b (quoteL t) 0 0 ((pcsOf 0 0 t.length (msOf t)).map Pc.val) := by
  rw [vals_of]
  have := rowOk_bytes (b := b) (g := 0) (l := t.flatMap quote1) (post := []) (vs := []) rfl t 0 (by simp) (by show _ = _; rw [Nat.zero_add]; rfl)
  show RowOk b ⟨(t.flatMap quote1).toArray⟩ 0 0 _
  simpa using this
theorem row_begin (b : Nat) (t : List UInt8) : RowOk b ⟨(94 :: t.flatMap quote1).toArray⟩ 0 0 ((pcsOf 1 0 t.length (msOf t)).map Pc.val) := by
  rw [vals_of]
  have h := rowOk_bytes (b := b) (g := 0) (l := 94 :: t.flatMap quote1) (post := []) (vs := []) rfl t 1 (by simp) (by show _ = _; show 1 + _ = (94 :: t.flatMap quote1).toArray.size; simp; omega)
  have hs : ∀ x : Int, ¬ (94 : Int) = x → saw ⟨(94 :: t.flatMap quote1).toArray⟩ 0 x = false := fun x hx => by rw [saw_list]; simpa using hx
  refine ⟨by show 0 < (94 :: t.flatMap quote1).toArray.size; simp, hs _ (by omega), hs _ (by omega), ⟨_, _, rfl⟩, 1, by omega, piece_begin (by rw [saw_list]; rfl), ?_⟩
  simpa using h
theorem row_end (b : Nat) (t : List UInt8) : RowOk b ⟨(t.flatMap quote1 ++ [36]).toArray⟩ 0 0 ((pcsOf 0 1 t.length (msOf t)).map Pc.val) := by
  rw [vals_of]
  have hd : (t.flatMap quote1 ++ [36]).drop (t.flatMap quote1).length = [36] := by simp
  have hs : ∀ x : Int, ¬ (36 : Int) = x → saw ⟨(t.flatMap quote1 ++ [36]).toArray⟩ (t.flatMap quote1).length x = false := fun x hx => by
    have := saw_no (j := 0) (x := x) hd (fun d hd' => by
      have : (36 : UInt8) = d := by simpa using hd'
      rw [← this]; exact hx)
    rwa [Nat.add_zero] at this
  have s36 : saw ⟨(t.flatMap quote1 ++ [36]).toArray⟩ (t.flatMap quote1).length 36 = true := by
    have := saw_is (j := 0) (c := 36) hd rfl
    rwa [Nat.add_zero] at this
  have hz : (ByteArray.mk (t.flatMap quote1 ++ [36]).toArray).size = (t.flatMap quote1).length + 1 := by show ((t.flatMap quote1 ++ [36]).toArray).size = _; simp
  have h := rowOk_bytes (b := b) (g := 0) (l := t.flatMap quote1 ++ [36]) (post := [36]) (vs := [edgeV 2]) rfl t 0 (by simp) (by
    rw [Nat.zero_add]
    exact ⟨by rw [hz]; omega, hs _ (by omega), hs _ (by omega), ⟨_, _, rfl⟩, (t.flatMap quote1).length + 1, by omega, piece_end (hs _ (by omega)) s36, by show _ = _; rw [hz]⟩)
  simpa using h

/-- The bytes of a text stand from a place on, one by one. -/
theorem pre_iff (t : List UInt8) (text : ByteArray) (a : Nat) : ∀ j, j ≤ t.length → (pre (msOf t) text a j = true ↔ ∀ i, i < j → ∃ h : a + i < text.size, t[i]? = some (text[a + i]'h))
  | 0, _ => by simp [pre]
  | j + 1, hj => by
    rw [pre, Bool.and_eq_true, pre_iff t text a j (by omega)]
    have hjt : j < t.length := by omega
    have last : (if h : a + j < text.size then msOf t j (text[a + j]'h).toNat else false) = true ↔ ∃ h : a + j < text.size, t[j]? = some (text[a + j]'h) := by
      by_cases h : a + j < text.size
      · rw [dif_pos h]
        unfold msOf
        rw [List.getElem?_eq_getElem hjt]
        simp only [span, noBytes, Bool.false_or, Bool.and_eq_true, decide_eq_true_eq]
        constructor
        · intro q
          refine ⟨h, ?_⟩
          congr 1
          apply UInt8.toNat_inj.1; omega
        · rintro ⟨_, q⟩
          have := Option.some.inj q
          rw [this]; omega
      · rw [dif_neg h]
        constructor
        · intro q; cases q
        · rintro ⟨q, _⟩; exact absurd q h
    rw [last]
    constructor
    · rintro ⟨h1, h2⟩ i hi
      by_cases e : i = j
      · subst e; exact h2
      · exact h1 i (by omega)
    · intro h
      exact ⟨fun i hi => h i (by omega), h j (by omega)⟩

theorem toList_loop (s : ByteArray) : ∀ (n i : Nat) (r : List UInt8), s.size - i = n → ByteArray.toList.loop s i r = r.reverse ++ s.data.toList.drop i
  | 0, i, r, h => by
    rw [ByteArray.toList.loop, if_neg (by omega), List.drop_eq_nil_of_le (by show s.size ≤ i; omega), List.append_nil]
  | n + 1, i, r, h => by
    have hi : i < s.size := by omega
    rw [ByteArray.toList.loop, if_pos hi, toList_loop s n (i + 1) _ (by omega)]
    have e : s.data.toList.drop i = s.get! i :: s.data.toList.drop (i + 1) := by
      have hi' : i < s.data.toList.length := hi
      rw [List.drop_eq_getElem_cons hi']
      congr 1
      show s.data[i] = s.data[i]!
      exact (getElem!_pos s.data i hi).symm
    rw [e]; simp
theorem toList_data (s : ByteArray) : s.toList = s.data.toList := by
  show ByteArray.toList.loop s 0 [] = _
  rw [toList_loop s s.size 0 [] rfl]; rfl

theorem stands_iff (v text : ByteArray) (a : Nat) : standsB text v a = true ↔ a + v.size ≤ text.size ∧ pre (msOf v.data.toList) text a v.size = true := by
  have hvl : v.data.toList.length = v.size := rfl
  unfold standsB
  rw [Bool.and_eq_true, decide_eq_true_eq]
  constructor
  · rintro ⟨h1, h2⟩
    refine ⟨h1, (pre_iff _ _ _ _ (by omega)).2 fun i hi => ⟨by omega, ?_⟩⟩
    rw [toList_data, toList_data, beq_iff_eq, ByteArray.data_extract] at h2
    rw [← h2]
    have hlt : a + i < text.data.size := by show a + i < text.size; omega
    rw [Array.getElem?_toList, Array.getElem?_extract]
    rw [if_pos (by have : text.data.size = text.size := rfl; omega)]
    exact Array.getElem?_eq_getElem hlt
  · rintro ⟨h1, h2⟩
    refine ⟨h1, ?_⟩
    have hp := (pre_iff _ _ _ _ (by omega)).1 h2
    rw [toList_data, toList_data, beq_iff_eq, ByteArray.data_extract]
    apply List.ext_getElem?
    intro i
    by_cases hi : i < v.size
    · obtain ⟨h3, h4⟩ := hp i hi
      rw [h4, Array.getElem?_toList, Array.getElem?_extract, if_pos (by have : text.data.size = text.size := rfl; omega)]
      exact Array.getElem?_eq_getElem h3
    · have e1 : v.data.toList[i]? = none := List.getElem?_eq_none (by omega)
      have e2 : (text.data.extract a (a + v.size)).toList[i]? = none := List.getElem?_eq_none (by rw [Array.length_toList, Array.size_extract]; omega)
      rw [e1, e2]
end Go.Proofs.YtonnimbcekhbgaaGreatDoor
