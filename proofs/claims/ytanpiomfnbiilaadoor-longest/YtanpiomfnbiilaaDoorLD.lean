/- found over a quoted text: alone, at the text's beginning, at its end. -/
import Derived.Test.YtanpiomfnbiilaaDoorLC
namespace Go.Proofs.YtanpiomfnbiilaaDoor
open Go.RowKit

/-- The sets of a text's bytes. -/
def msOf (t : List UInt8) (j : Nat) : Nat → Bool := match t[j]? with
  | some c => span noBytes c.toNat (c.toNat + 1)
  | none => noBytes

theorem vals_bytes (t : List UInt8) : (List.range t.length).map (fun j => (⟨0, msOf t j⟩ : Pc).val) = t.map byteV := by
  apply List.ext_getElem
  · simp
  · intro j h1 h2
    have hj : j < t.length := by simpa using h2
    have e : (⟨0, msOf t j⟩ : Pc).val = oneV (msOf t j) := by unfold Pc.val; rw [if_pos rfl]
    simp only [List.getElem_map, List.getElem_range]
    rw [e]
    unfold msOf
    rw [List.getElem?_eq_getElem hj]

theorem vals_of (B E : Nat) (t : List UInt8) : (pcsOf B E t.length (msOf t)).map Pc.val = (if B = 1 then [edgeV 1] else []) ++ (t.map byteV ++ (if E = 1 then [edgeV 2] else [])) := by
  unfold pcsOf
  rw [List.map_append, List.map_append, List.map_map, ← vals_bytes]
  have e1 : (if B = 1 then [(⟨1, noBytes⟩ : Pc)] else []).map Pc.val = if B = 1 then [edgeV 1] else [] := by split <;> rfl
  have e2 : (if E = 1 then [(⟨2, noBytes⟩ : Pc)] else []).map Pc.val = if E = 1 then [edgeV 2] else [] := by split <;> rfl
  rw [e1, e2]; rfl

theorem row_plain (b : Nat) (t : List UInt8) : RowOk b (quoteL t) 0 0 ((pcsOf 0 0 t.length (msOf t)).map Pc.val) := by
  rw [vals_of]
  have := rowOk_bytes (b := b) (g := 0) (l := t.flatMap quote1) (post := []) (vs := []) rfl t 0 (by simp) (by show _ = _; rw [Nat.zero_add]; rfl)
  show RowOk b ⟨(t.flatMap quote1).toArray⟩ 0 0 _
  simpa using this
theorem row_begin (b : Nat) (t : List UInt8) : RowOk b ⟨(94 :: t.flatMap quote1).toArray⟩ 0 0 ((pcsOf 1 0 t.length (msOf t)).map Pc.val) := by
  rw [vals_of]
  have h := rowOk_bytes (b := b) (g := 0) (l := 94 :: t.flatMap quote1) (post := []) (vs := []) rfl t 1 (by simp) (by show _ = _; show 1 + _ = (94 :: t.flatMap quote1).toArray.size; simp; omega)
  have hs : ∀ x : Int, ¬ (94 : Int) = x → saw ⟨(94 :: t.flatMap quote1).toArray⟩ 0 x = false := fun x hx => by rw [saw_list]; simpa using hx
  refine ⟨by show 0 < (94 :: t.flatMap quote1).toArray.size; simp, hs _ (by omega), hs _ (by omega), ⟨_, _, rfl⟩, 1, by omega, piece_begin (by rw [saw_list]; rfl), ?_⟩
  simpa using h
theorem row_end (b : Nat) (t : List UInt8) : RowOk b ⟨(t.flatMap quote1 ++ [36]).toArray⟩ 0 0 ((pcsOf 0 1 t.length (msOf t)).map Pc.val) := by
  rw [vals_of]
  have hd : (t.flatMap quote1 ++ [36]).drop (t.flatMap quote1).length = [36] := by simp
  have hs : ∀ x : Int, ¬ (36 : Int) = x → saw ⟨(t.flatMap quote1 ++ [36]).toArray⟩ (t.flatMap quote1).length x = false := fun x hx => by
    have := saw_no (j := 0) (x := x) hd (fun d hd' => by
      have : (36 : UInt8) = d := by simpa using hd'
      rw [← this]; exact hx)
    rwa [Nat.add_zero] at this
  have s36 : saw ⟨(t.flatMap quote1 ++ [36]).toArray⟩ (t.flatMap quote1).length 36 = true := by
    have := saw_is (j := 0) (c := 36) hd rfl
    rwa [Nat.add_zero] at this
  have hz : (ByteArray.mk (t.flatMap quote1 ++ [36]).toArray).size = (t.flatMap quote1).length + 1 := by show ((t.flatMap quote1 ++ [36]).toArray).size = _; simp
  have h := rowOk_bytes (b := b) (g := 0) (l := t.flatMap quote1 ++ [36]) (post := [36]) (vs := [edgeV 2]) rfl t 0 (by simp) (by
    rw [Nat.zero_add]
    exact ⟨by rw [hz]; omega, hs _ (by omega), hs _ (by omega), ⟨_, _, rfl⟩, (t.flatMap quote1).length + 1, by omega, piece_end (hs _ (by omega)) s36, by show _ = _; rw [hz]⟩)
  simpa using h

/-- The bytes of a text stand from a place on, one by one. -/
theorem pre_iff (t : List UInt8) (text : ByteArray) (a : Nat) : ∀ j, j ≤ t.length → (pre (msOf t) text a j = true ↔ ∀ i, i < j → ∃ h : a + i < text.size, t[i]? = some (text[a + i]'h))
  | 0, _ => by simp [pre]
  | j + 1, hj => by
    rw [pre, Bool.and_eq_true, pre_iff t text a j (by omega)]
    have hjt : j < t.length := by omega
    have last : (if h : a + j < text.size then msOf t j (text[a + j]'h).toNat else false) = true ↔ ∃ h : a + j < text.size, t[j]? = some (text[a + j]'h) := by
      by_cases h : a + j < text.size
      · rw [dif_pos h]
        unfold msOf
        rw [List.getElem?_eq_getElem hjt]
        simp only [span, noBytes, Bool.false_or, Bool.and_eq_true, decide_eq_true_eq]
        constructor
        · intro q
          refine ⟨h, ?_⟩
          congr 1
          apply UInt8.toNat_inj.1; omega
        · rintro ⟨_, q⟩
          have := Option.some.inj q
          rw [this]; omega
      · rw [dif_neg h]
        constructor
        · intro q; cases q
        · rintro ⟨q, _⟩; exact absurd q h
    rw [last]
    constructor
    · rintro ⟨h1, h2⟩ i hi
      by_cases e : i = j
      · subst e; exact h2
      · exact h1 i (by omega)
    · intro h
      exact ⟨fun i hi => h i (by omega), h j (by omega)⟩

theorem toList_loop (s : ByteArray) : ∀ (n i : Nat) (r : List UInt8), s.size - i = n → ByteArray.toList.loop s i r = r.reverse ++ s.data.toList.drop i
  | 0, i, r, h => by
    rw [ByteArray.toList.loop, if_neg (by omega), List.drop_eq_nil_of_le (by show s.size ≤ i; omega), List.append_nil]
  | n + 1, i, r, h => by
    have hi : i < s.size := by omega
    rw [ByteArray.toList.loop, if_pos hi, toList_loop s n (i + 1) _ (by omega)]
    have e : s.data.toList.drop i = s.get! i :: s.data.toList.drop (i + 1) := by
      have hi' : i < s.data.toList.length := hi
      rw [List.drop_eq_getElem_cons hi']
      congr 1
      show s.data[i] = s.data[i]!
      exact (getElem!_pos s.data i hi).symm
    rw [e]; simp
theorem toList_data (s : ByteArray) : s.toList = s.data.toList := by
  show ByteArray.toList.loop s 0 [] = _
  rw [toList_loop s s.size 0 [] rfl]; rfl

theorem stands_iff (v text : ByteArray) (a : Nat) : standsB text v a = true ↔ a + v.size ≤ text.size ∧ pre (msOf v.data.toList) text a v.size = true := by
  have hvl : v.data.toList.length = v.size := rfl
  unfold standsB
  rw [Bool.and_eq_true, decide_eq_true_eq]
  constructor
  · rintro ⟨h1, h2⟩
    refine ⟨h1, (pre_iff _ _ _ _ (by omega)).2 fun i hi => ⟨by omega, ?_⟩⟩
    rw [toList_data, toList_data, beq_iff_eq, ByteArray.data_extract] at h2
    rw [← h2]
    have hlt : a + i < text.data.size := by show a + i < text.size; omega
    rw [Array.getElem?_toList, Array.getElem?_extract]
    rw [if_pos (by have : text.data.size = text.size := rfl; omega)]
    exact Array.getElem?_eq_getElem hlt
  · rintro ⟨h1, h2⟩
    refine ⟨h1, ?_⟩
    have hp := (pre_iff _ _ _ _ (by omega)).1 h2
    rw [toList_data, toList_data, beq_iff_eq, ByteArray.data_extract]
    apply List.ext_getElem?
    intro i
    by_cases hi : i < v.size
    · obtain ⟨h3, h4⟩ := hp i hi
      rw [h4, Array.getElem?_toList, Array.getElem?_extract, if_pos (by have : text.data.size = text.size := rfl; omega)]
      exact Array.getElem?_eq_getElem h3
    · have e1 : v.data.toList[i]? = none := List.getElem?_eq_none (by omega)
      have e2 : (text.data.extract a (a + v.size)).toList[i]? = none := List.getElem?_eq_none (by rw [Array.length_toList, Array.size_extract]; omega)
      rw [e1, e2]

/-- A quoted text is found where the text stands first. -/
theorem found_quote {v text : ByteArray} {w : World} (hw : Nm w) (hv : v.size ≤ 40) (ht : text.size ≤ 1000) {fr to : Int}
    (h : (∃ a : Nat, standsB text v a = true ∧ (∀ b, b < a → standsB text v b = false) ∧ fr = a ∧ to = ((a + v.size : Nat) : Int)) ∨ ((∀ a, standsB text v a = false) ∧ fr = -1)) :
    Calls Tryd.prog 10 #[.string (quoteL v.data.toList), .string text, .int .i64 fr, .int .i64 to] w fun e w' => e = .returned (.bool true) ∧ Kp [] w w' := by
  have hvl : v.data.toList.length = v.size := rfl
  have hsz := quoteL_size v.data.toList
  have st : ∀ a, Stands 0 0 v.data.toList.length (msOf v.data.toList) text a ↔ standsB text v a = true := fun a => by
    rw [stands_iff]
    constructor
    · rintro ⟨_, h1, h2, _⟩; exact ⟨h1, h2⟩
    · rintro ⟨h1, h2⟩; exact ⟨.inl rfl, h1, h2, fun q => by cases q⟩
  refine found_row (B := 0) (E := 0) (L := v.data.toList.length) (ms := msOf v.data.toList) hw (by omega) ht (by omega) (by omega) (by omega) (fun b _ => row_plain b _) ?_
  rcases h with ⟨a, h1, h2, h3, h4⟩ | ⟨h1, h2⟩
  · exact .inl ⟨a, (st a).2 h1, fun b hb q => (by have h5 := (st b).1 q; rw [h2 b hb] at h5; cases h5), h3, h4⟩
  · exact .inr ⟨fun a q => (by have h5 := (st a).1 q; rw [h1 a] at h5; cases h5), h2⟩

/-- Behind the sign of the text's beginning: at the beginning alone. -/
theorem found_head {v text : ByteArray} {w : World} (hw : Nm w) (hv : v.size ≤ 40) (ht : text.size ≤ 1000) {fr : Int} (h : fr = if standsB text v 0 = true then 0 else -1) :
    Calls Tryd.prog 10 #[.string ⟨(94 :: v.data.toList.flatMap quote1).toArray⟩, .string text, .int .i64 fr, .int .i64 v.size] w fun e w' => e = .returned (.bool true) ∧ Kp [] w w' := by
  have hvl : v.data.toList.length = v.size := rfl
  have hsz : ((v.data.toList.flatMap quote1)).length ≤ 2 * v.data.toList.length := by
    have := quoteL_size v.data.toList
    unfold quoteL at this
    have e : (ByteArray.mk (v.data.toList.flatMap quote1).toArray).size = (v.data.toList.flatMap quote1).length := by show ((v.data.toList.flatMap quote1).toArray).size = _; simp
    omega
  have hs2 : (ByteArray.mk (94 :: v.data.toList.flatMap quote1).toArray).size ≤ 100 := by
    show ((94 :: v.data.toList.flatMap quote1).toArray).size ≤ 100
    simp only [List.size_toArray, List.length_cons]; omega
  refine found_row (B := 1) (E := 0) (L := v.data.toList.length) (ms := msOf v.data.toList) hw hs2 ht (by omega) (by omega) (by omega) (fun b _ => row_begin b _) ?_
  by_cases q : standsB text v 0 = true
  · rw [if_pos q] at h
    have := (stands_iff v text 0).1 q
    exact .inl ⟨0, ⟨.inr rfl, this.1, this.2, fun r => by cases r⟩, fun b hb => by omega, h, by rw [hvl, Nat.zero_add]⟩
  · rw [if_neg q] at h
    refine .inr ⟨?_, h⟩
    rintro a ⟨h1, h2, h3, _⟩
    have ha : a = 0 := by rcases h1 with r | r; cases r; exact r
    subst ha
    exact q ((stands_iff v text 0).2 ⟨h2, h3⟩)

/-- Ahead of the sign of the text's end: at the end alone. -/
theorem found_tail {v text : ByteArray} {w : World} (hw : Nm w) (hv : v.size ≤ 40) (ht : text.size ≤ 1000) {fr : Int} (h : fr = if v.size ≤ text.size ∧ standsB text v (text.size - v.size) = true then ((text.size - v.size : Nat) : Int) else -1) :
    Calls Tryd.prog 10 #[.string ⟨(v.data.toList.flatMap quote1 ++ [36]).toArray⟩, .string text, .int .i64 fr, .int .i64 text.size] w fun e w' => e = .returned (.bool true) ∧ Kp [] w w' := by
  have hvl : v.data.toList.length = v.size := rfl
  have hsz : ((v.data.toList.flatMap quote1)).length ≤ 2 * v.data.toList.length := by
    have := quoteL_size v.data.toList
    unfold quoteL at this
    have e : (ByteArray.mk (v.data.toList.flatMap quote1).toArray).size = (v.data.toList.flatMap quote1).length := by show ((v.data.toList.flatMap quote1).toArray).size = _; simp
    omega
  have hs2 : (ByteArray.mk (v.data.toList.flatMap quote1 ++ [36]).toArray).size ≤ 100 := by
    show ((v.data.toList.flatMap quote1 ++ [36]).toArray).size ≤ 100
    simp only [List.size_toArray, List.length_append, List.length_singleton]; omega
  refine found_row (B := 0) (E := 1) (L := v.data.toList.length) (ms := msOf v.data.toList) hw hs2 ht (by omega) (by omega) (by omega) (fun b _ => row_end b _) ?_
  by_cases q : v.size ≤ text.size ∧ standsB text v (text.size - v.size) = true
  · rw [if_pos q] at h
    have := (stands_iff v text _).1 q.2
    exact .inl ⟨text.size - v.size, ⟨.inl rfl, this.1, this.2, fun _ => by omega⟩, fun b hb st => by have := st.2.2.2 rfl; omega, h, by omega⟩
  · rw [if_neg q] at h
    refine .inr ⟨?_, h⟩
    rintro a ⟨_, h2, h3, h4⟩
    have ha : a = text.size - v.size := by have := h4 rfl; omega
    refine q ⟨by omega, (stands_iff v text _).2 ⟨by omega, ?_⟩⟩
    rw [← ha]; exact h3
end Go.Proofs.YtanpiomfnbiilaaDoor
