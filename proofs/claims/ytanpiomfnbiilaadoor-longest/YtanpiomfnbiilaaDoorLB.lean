/- The pattern that is found where a text stands: each byte that means something behind a backslash. -/
import Derived.Test.YtanpiomfnbiilaaDoorLA
import Derived.Laws.IdiomStrings
namespace Go.Proofs.YtanpiomfnbiilaaDoor
open Go.RowKit

def specialB : ByteArray := ⟨#[92, 124, 42, 43, 63, 123, 125, 40, 41, 46, 94, 36, 91, 93]⟩
def isSpec (c : UInt8) : Bool := specialB.data.toList.contains c
/-- A byte as it is written in a pattern. -/
def quote1 (c : UInt8) : List UInt8 := if c = 10 then [92, 110] else if isSpec c = true then [92, c] else [c]
def quoteL (l : List UInt8) : ByteArray := ⟨(l.flatMap quote1).toArray⟩

theorem quoteL_snoc (l : List UInt8) (c : UInt8) : quoteL (l ++ [c]) = quoteL l ++ ⟨(quote1 c).toArray⟩ := by
  unfold quoteL
  apply ByteArray.ext
  simp [ByteArray.data_append]
theorem quoteL_size (l : List UInt8) : (quoteL l).size ≤ 2 * l.length := by
  show ((l.flatMap quote1).toArray).size ≤ _
  rw [List.size_toArray]
  induction l with
  | nil => simp
  | cons c l ih =>
    rw [List.flatMap_cons, List.length_append, List.length_cons]
    have : (quote1 c).length ≤ 2 := by unfold quote1; split <;> (try split) <;> simp
    omega

theorem spec_stands : ∀ c : Fin 256, ((List.range 14).any fun j => standsB specialB ⟨#[UInt8.ofNat c]⟩ j) = isSpec (UInt8.ofNat c) := by decide +kernel
theorem spec_out (c : UInt8) (j : Nat) (h : 14 ≤ j) : standsB specialB ⟨#[c]⟩ j = false := by
  unfold standsB
  have e1 : (ByteArray.mk #[c]).size = 1 := rfl
  have e2 : specialB.size = 14 := rfl
  rw [e1, e2, decide_eq_false (by omega), Bool.false_and]
theorem spec_iff (c : UInt8) : (∃ j, standsB specialB ⟨#[c]⟩ j = true) ↔ isSpec c = true := by
  have hc : c = UInt8.ofNat (⟨c.toNat, c.toNat_lt⟩ : Fin 256) := by simp
  have hs := spec_stands ⟨c.toNat, c.toNat_lt⟩
  rw [← hc] at hs
  rw [← hs, List.any_eq_true]
  constructor
  · rintro ⟨j, hj⟩
    refine ⟨j, List.mem_range.2 ?_, hj⟩
    by_cases h : j < 14
    · exact h
    · rw [spec_out c j (by omega)] at hj; cases hj
  · rintro ⟨j, _, hj⟩
    exact ⟨j, hj⟩

theorem extract_one (s : ByteArray) (k k1 : Nat) (hk : k < s.size) (e : k1 = k + 1) : s.extract k k1 = ⟨#[s[k]]⟩ := by
  subst e
  apply ByteArray.ext
  rw [ByteArray.data_extract]
  apply Array.ext
  · have hk' : k < s.data.size := hk
    simp; omega
  · intro i h1 h2
    have hi : i = 0 := by simp at h2; exact h2
    subst hi
    simp
    rfl

theorem conv_byte (W : World) (x : UInt8) : (convert 28 9 (.slice (some ⟨W.heap.size, 0, none⟩) 1 1)).run Tryd.prog (W.alloc (.cells #[.int .u8 (x.toNat : Int)] 5)) =
    .ok (.string ⟨#[x]⟩) (W.alloc (.cells #[.int .u8 (x.toNat : Int)] 5)) :=
  run_convert_bytes_back (P := Tryd.prog) _ 28 9 5 ⟨W.heap.size, 0, none⟩ 1 [x] (by kernel_rfl) (by kernel_rfl) (by kernel_rfl) (fun j hj => by
    have e : j = 0 := by simp at hj; exact hj
    subst e
    simp [go_sem])

set_option maxRecDepth 100000 in
set_option maxHeartbeats 1000000 in
theorem quoted_any (s : ByteArray) (hs : s.size ≤ 1000) (w : World) :
    Calls Tryd.prog 11 #[.string s] w fun e w' => e = .returned (.string (quoteL s.data.toList)) ∧ Kp [] w w' := by
  go_enter Tryd.func11, Tryd.ntmps11
  go_wp2_with fail
  go_loopw [3, 4] (fun o i wr => ∃ k : Nat, k ≤ s.size ∧ o = .string (quoteL (s.data.toList.take k)) ∧ i = .int .i64 k ∧ Kp [] w wr) (fun _ i _ => s.size - (intOf i).toNat)
  case atStart => exact ⟨0, by omega, rfl, rfl, Kp.refl _ _⟩
  case round =>
    obtain ⟨k, hk, rfl, rfl, kr⟩ := hrel
    by_cases hlt : k < s.size
    · have hsz := quoteL_size (s.data.toList.take k)
      have hsz2 : (quoteL (s.data.toList.take k)).size ≤ 2000 := by
        have : (s.data.toList.take k).length ≤ k := by simp; omega
        omega
      have htk : s.data.toList.take (k + 1) = s.data.toList.take k ++ [s[k]] := by
        rw [List.take_add_one]
        congr 1
        have : s.data.toList[k]? = some s[k] := by
          rw [Array.getElem?_toList]
          exact Array.getElem?_eq_getElem hlt
        rw [this]; rfl
      have HT := hid htk
      obtain ⟨O, hO⟩ : ∃ O, quoteL (s.data.toList.take k) = O := ⟨_, rfl⟩
      rw [hO] at hsz2
      have HO := hid hO
      rw [hO]
      clear htk hsz hO
      obtain ⟨k1, hk1⟩ : ∃ k1 : Nat, (k : Int) + 1 = (k1 : Int) := ⟨k + 1, by omega⟩
      have wk1 := wrap_i64_nat k1 (by omega)
      have HK := hid (show k1 = k + 1 by omega)
      have hz2 : ¬ 9223372036854775807 < O.size + 2 := by omega
      have hz1 : ¬ 9223372036854775807 < O.size + 1 := by omega
      have hz3 : ¬ 9223372036854775807 < O.size + 1 + 1 := by omega
      by_cases h10 : s[k] = 10
      · have h10' : ((s[k].toNat : Int) == 10) = true := by rw [h10]; rfl
        go_wp2_with fail
        refine ⟨⟨k1, by omega, ?_, rfl, kr⟩, by simp [intOf]; omega⟩
        rw [HK.out, HT.out, quoteL_snoc, HO.out]
        have e : quote1 s[k] = [92, 110] := by unfold quote1; rw [if_pos h10]
        rw [e]
      · have h10' : ((s[k].toNat : Int) == 10) = false := by
          rw [beq_eq_false_iff_ne]
          intro q
          apply h10
          apply UInt8.toNat_inj.1
          have : (10 : UInt8).toNat = 10 := rfl
          omega
        have hex := extract_one s k k1 hlt HK.out
        have HEX := hid hex
        have hkk : k ≤ k1 := by have := HK.out; omega
        have hks : k1 ≤ s.size := by have := HK.out; omega
        clear hex
        go_wp2_with fail
        have hst := stands_any (s := specialB) (v := s.extract k k1) (by show 14 ≤ 100000; omega) (by rw [HEX.out]; show 1 ≤ 100000; omega) 0 (by omega) wr
        refine hst.mono ?_
        rintro e w1 ⟨kw, ⟨i, _, rfl, hi, _⟩ | ⟨rfl, hno⟩⟩
        · have hsp : isSpec s[k] = true := (spec_iff s[k]).1 ⟨i, by rw [← HEX.out]; exact hi⟩
          have HSP := hid hsp
          have hi0 : (0 : Int) ≤ i := by omega
          have kc := conv_byte w1 s[k]
          clear hst hi hsp
          go_wp2_with fail
          refine ⟨⟨k1, by omega, ?_, rfl, kr.trans (kw.trans (Kp.alloc _ _ _))⟩, by simp [intOf]; omega⟩
          rw [HK.out, HT.out, quoteL_snoc, HO.out]
          have e : quote1 s[k] = [92, s[k]] := by unfold quote1; rw [if_neg h10, if_pos HSP.out]
          rw [e]
          rw [ByteArray.append_assoc]; rfl
        · have hsp : isSpec s[k] = false := by
            by_cases q : isSpec s[k] = true
            · obtain ⟨j, hj⟩ := (spec_iff s[k]).2 q
              rw [← HEX.out] at hj
              rw [hno j (Nat.zero_le _)] at hj; cases hj
            · simpa using q
          have HSP := hid hsp
          have kc := conv_byte w1 s[k]
          clear hst hno hsp
          go_wp2_with fail
          refine ⟨⟨k1, by omega, ?_, rfl, kr.trans (kw.trans (Kp.alloc _ _ _))⟩, by simp [intOf]; omega⟩
          rw [HK.out, HT.out, quoteL_snoc, HO.out]
          have e : quote1 s[k] = [s[k]] := by unfold quote1; rw [if_neg h10, if_neg (by rw [HSP.out]; simp)]
          rw [e]
    · go_wp2_with fail
      go_ret
      refine ⟨?_, kr⟩
      rw [List.take_of_length_le (by have : s.data.toList.length = s.size := rfl; omega)]; rfl
end Go.Proofs.YtanpiomfnbiilaaDoor
