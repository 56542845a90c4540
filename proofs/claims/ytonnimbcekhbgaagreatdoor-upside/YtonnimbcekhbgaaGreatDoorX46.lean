/- What the claim needs of: HJ. -/
import Derived.Test.YtonnimbcekhbgaaGreatDoorX45

/- HJ. -/
namespace Go.Proofs.YtonnimbcekhbgaaGreatDoor
open Go.RowKit

section
variable {x sp L1 L2 : List UInt8} {f : Nat → List UInt8} {c : UInt8} {q : Nat → Bool} {N fr a : Nat}
theorem nextO_is (h1 : fr ≤ a) (h2 : a < N) (h3 : q a = true) (h4 : ∀ b, fr ≤ b → b < a → q b = false) : nextO q N fr = some a := by
  cases h : nextO q N fr with
  | none => rw [nextO_none h a h1 h2] at h3; cases h3
  | some b =>
    obtain ⟨g1, g2, g3, g4⟩ := nextO_some h
    rcases Nat.lt_trichotomy b a with r | r | r
    · rw [h4 b g1 r] at g3; cases g3
    · rw [r]
    · rw [g4 a h1 r] at h3; cases h3
theorem nextO_no (h : ∀ b, fr ≤ b → b < N → q b = false) : nextO q N fr = none := by
  cases e : nextO q N fr with
  | none => rfl
  | some b =>
    obtain ⟨g1, g2, g3, g4⟩ := nextO_some e
    rw [h b g1 g2] at g3; cases g3

theorem qx_nl (sp : List UInt8) (a : Nat) : qx [10] sp a = decide (sp[a]? = some 10) := by
  rw [Bool.eq_iff_iff, decide_eq_true_iff]
  constructor
  · intro h
    have e := qx_at h
    have hl := qx_le h
    rw [List.drop_take, show a + [(10 : UInt8)].length - a = 1 by simp, List.drop_eq_getElem_cons (by simp at hl; omega), List.take_succ_cons, List.take_zero] at e
    injection e with e
    rw [List.getElem?_eq_getElem (by simp at hl; omega), e]
  · intro h
    have hl : a < sp.length := (List.getElem?_eq_some_iff.1 h).1
    have he : sp[a] = 10 := (List.getElem?_eq_some_iff.1 h).2
    show standsB (ba sp) (ba [10]) a = true
    unfold standsB
    rw [Bool.and_eq_true, decide_eq_true_eq, toList_data, toList_data, beq_iff_eq, ByteArray.data_extract, ba_size, ba_size]
    refine ⟨by simp; omega, ?_⟩
    rw [Array.toList_extract, show (ba [10]).data.toList = [10] from ba_list [10], show (ba sp).data.toList = sp from ba_list sp, List.extract_eq_take_drop, show a + [(10 : UInt8)].length - a = 1 by simp, List.drop_eq_getElem_cons hl, List.take_succ_cons, List.take_zero, he]

theorem nl_not (h : (10 : UInt8) ∉ sp) (a : Nat) : qx [10] sp a = false := by
  rw [qx_nl, decide_eq_false_iff_not]
  exact fun e => h (List.mem_of_getElem? e)
/-- No newline. -/
theorem sub_none (h : (10 : UInt8) ∉ sp) : lawT sp 1 f (px [10] sp) = sp := by
  have := (Lp.start (x := [10]) (sp := sp) (f := f)).done (nextO_no (fun b _ _ => nl_not h b))
  simpa using this
/-- One newline. -/
theorem sub_one (h1 : (10 : UInt8) ∉ L1) (h2 : (10 : UInt8) ∉ L2) : lawT (L1 ++ 10 :: L2) 1 f (px [10] (L1 ++ 10 :: L2)) = L1 ++ f 0 ++ L2 := by
  have n0 : nextO (qx [10] (L1 ++ 10 :: L2)) ((L1 ++ 10 :: L2).length + 1) 0 = some L1.length := nextO_is (Nat.zero_le _) (by simp; omega) (by rw [qx_nl]; simp) (fun b _ hb => by
    rw [qx_nl, decide_eq_false_iff_not, List.getElem?_append_left hb]
    exact fun e => h1 (List.mem_of_getElem? e))
  have s1 := (Lp.start (x := [10]) (sp := L1 ++ 10 :: L2) (f := f)).step (by simp) n0
  have n1 : nextO (qx [10] (L1 ++ 10 :: L2)) ((L1 ++ 10 :: L2).length + 1) (L1.length + [(10 : UInt8)].length) = none := nextO_no (fun b hb _ => by
    have hb : L1.length + 1 ≤ b := hb
    rw [qx_nl, decide_eq_false_iff_not, List.getElem?_append_right (by omega)]
    obtain ⟨j, hj⟩ : ∃ j, b - L1.length = j + 1 := ⟨b - L1.length - 1, by omega⟩
    rw [hj, List.getElem?_cons_succ]
    exact fun e => h2 (List.mem_of_getElem? e))
  have := s1.done n1
  refine this.trans ?_
  have e1 : (L1 ++ 10 :: L2).take L1.length = L1 := by simp
  have e2 : (L1 ++ 10 :: L2).drop (L1.length + [(10 : UInt8)].length) = L2 := by
    rw [List.drop_append, List.drop_eq_nil_of_le (by simp), show L1.length + [(10 : UInt8)].length - L1.length = 1 by simp]
    rfl
  rw [e1, e2]
  simp

def subF (c u : UInt8) : UInt8 := if u = 10 then c else u
theorem subF_id (h : (10 : UInt8) ∉ sp) : sp.map (subF c) = sp := by
  conv => rhs; rw [← List.map_id sp]
  exact List.map_congr_left (fun u hu => by
    unfold subF
    rw [if_neg (fun e => h (by rw [← e]; exact hu))]; rfl)
/-- All newlines. -/
theorem sub_all (c : UInt8) (sp : List UInt8) : lawT sp 1 (fun _ => [c]) (px [10] sp) = sp.map (subF c) := by
  have key : ∀ (d fr i : Nat) (acc : List UInt8), sp.length + 1 - fr ≤ d → fr ≤ sp.length → Lp [10] sp (fun _ => [c]) i fr acc → acc = (sp.take fr).map (subF c) → lawT sp 1 (fun _ => [c]) (px [10] sp) = sp.map (subF c) := by
    intro d
    induction d with
    | zero => intro fr i acc h1 h2; omega
    | succ d ih =>
      intro fr i acc hd hfr hL hacc
      cases hn : nextO (qx [10] sp) (sp.length + 1) fr with
      | none =>
        refine (hL.done hn).trans ?_
        have hno : (10 : UInt8) ∉ sp.drop fr := fun e => by
          obtain ⟨j, hj, e⟩ := List.getElem_of_mem e
          have hj' : fr + j < sp.length := by rw [List.length_drop] at hj; omega
          have := nextO_none hn (fr + j) (by omega) (by omega)
          rw [qx_nl, decide_eq_false_iff_not] at this
          apply this
          rw [List.getElem?_eq_getElem hj']
          rw [List.getElem_drop] at e
          rw [e]
        rw [hacc]
        conv => lhs; rw [← subF_id (c := c) hno]
        rw [← List.map_append, List.take_append_drop]
      | some a =>
        obtain ⟨g1, g2, g3, g4⟩ := nextO_some hn
        rw [qx_nl, decide_eq_true_iff] at g3
        have ha : a < sp.length := (List.getElem?_eq_some_iff.1 g3).1
        refine ih (a + 1) (i + 1) _ (by omega) (by omega) (hL.step (by simp) hn) ?_
        have hno : (10 : UInt8) ∉ (sp.take a).drop fr := fun e => by
          obtain ⟨j, hj, e⟩ := List.getElem_of_mem e
          have hj' : fr + j < a := by rw [List.length_drop, List.length_take] at hj; omega
          have := g4 (fr + j) (by omega) hj'
          rw [qx_nl, decide_eq_false_iff_not] at this
          apply this
          rw [List.getElem?_eq_getElem (by omega)]
          rw [List.getElem_drop, List.getElem_take] at e
          rw [e]
        rw [hacc, List.take_add_one, g3]
        show _ = (sp.take a ++ [10]).map (subF c)
        have e2 : sp.take a = sp.take fr ++ (sp.take a).drop fr := by
          conv => lhs; rw [← List.take_append_drop fr (sp.take a)]
          rw [List.take_take, Nat.min_eq_left g1]
        rw [e2, List.map_append, List.map_append, subF_id hno, ← e2]
        show _ ++ (sp.take a).drop fr ++ [c] = _
        have : [(10 : UInt8)].map (subF c) = [c] := by simp [subF]
        rw [this]
  exact key (sp.length + 1) 0 0 [] (by omega) (Nat.zero_le _) .start (by simp)

theorem lawAll (c : UInt8) (sp : List UInt8) : lawT sp x.length (fun _ => [c]) (px x sp) = repT (qx x) x.length [c] [] true 0 sp :=
  law_is (plcs_asc sp) (fun _ ha => qx_le (plcs_q ha)) (fun _ _ _ _ _ => rfl) (fun i a h hh => by
    have : i < (plcs (qx x) x.length sp).length := (List.getElem?_eq_some_iff.1 h).1
    simp at hh; omega)
theorem lawOnce (c : UInt8) (sp : List UInt8) : lawT sp x.length (fun i => if i = 0 then [c] else x) (px x sp) = repT (qx x) x.length [c] [] false 0 sp :=
  law_is (plcs_asc sp) (fun _ ha => qx_le (plcs_q ha)) (fun i _ _ hn _ => by simp at hn; rw [if_pos hn]; rfl) (fun i a h hh => by
    simp at hh
    rw [if_neg (by omega), qx_at (px_q h)])
abbrev repN (c : UInt8) (all : Bool) (sp : List UInt8) : List UInt8 := repT (qx [10]) 1 [c] [] all 0 sp
theorem repN_all : repN c true sp = sp.map (subF c) := (lawAll (x := [10]) c sp).symm.trans (sub_all c sp)
theorem repN_none (h : (10 : UInt8) ∉ sp) : repN c false sp = sp := (lawOnce (x := [10]) c sp).symm.trans (sub_none h)
theorem repN_one (h1 : (10 : UInt8) ∉ L1) (h2 : (10 : UInt8) ∉ L2) : repN c false (L1 ++ 10 :: L2) = L1 ++ c :: L2 := by
  refine ((lawOnce (x := [10]) c _).symm.trans (sub_one h1 h2)).trans ?_
  simp
end

section
variable {sp plain : List UInt8} {holes : List (Nat × Nat)} {L num : Nat} {nt : Nat → Nat → Nat} {ps : List Nat}
theorem stR_one (hasc : ∀ i a a' : Nat, ps[i]? = some a → ps[i + 1]? = some a' → a + L ≤ a') (hp : ∀ a ∈ ps, (putN plain sp (nt a) 0 holes).length ≤ L) : ∀ i, (stR sp plain holes L num nt ps i).acc.length ≤ (stR sp plain holes L num nt ps i).done
  | 0 => Nat.le_refl _
  | i + 1 => by
    rcases h1 : ps[i]? with _ | a
    · have h2 := List.getElem?_eq_none_iff.1 h1
      have e := stR_one hasc hp i
      unfold stR at e ⊢
      rw [List.take_of_length_le (show ps.length ≤ i + 1 by omega), ← List.take_of_length_le h2]
      exact e
    · have e := stR_one hasc hp i
      have hd := stR_done (sp := sp) (plain := plain) (holes := holes) (num := num) (nt := nt) hasc i a h1
      rw [stR_succ h1]
      unfold stepR
      split
      · exact e
      · have := hp a (List.mem_of_getElem? h1)
        simp only [List.length_append, List.length_drop, List.length_take]
        omega
end

/-- A newline, for one byte. -/
theorem becomes_nl (c : UInt8) (all : Bool) (sp : List UInt8) (hsp : sp.length ≤ 3900) : ∃ ok, Becomes (rowQ [10]) [c] [] all 0 sp (repN c all sp) ok ∧ (ok = false → repN c all sp = sp) ∧ (repN c all sp).length ≤ sp.length := by
  have hasc := plcs_asc (q := qx [10]) (L := 1) sp
  have hle : ∀ a ∈ plcs (qx [10]) 1 sp, a + 1 ≤ sp.length := fun a ha => qx_le (x := [10]) (plcs_q ha)
  have hone := stR_one (sp := sp) (plain := [c]) (holes := []) (num := 0) (nt := ntF 1) hasc (fun a _ => by simp [putN])
  have hno : (rsOf (qx [10]) 1 [c] [] all 0 sp).ok = false → repN c all sp = sp := fun h => by
    unfold repN repT
    have := stR_no _ h
    rw [show rsOf (qx [10]) 1 [c] [] all 0 sp = ⟨[], 0, false⟩ from this]
    simp
  have hlen : (repN c all sp).length ≤ sp.length := by
    have h1 := hone (if all then (plcs (qx [10]) 1 sp).length else max 0 1)
    have h2 := stR_le (plain := [c]) (holes := []) (num := 0) (nt := ntF 1) hle (if all then (plcs (qx [10]) 1 sp).length else max 0 1)
    show ((rsOf (qx [10]) 1 [c] [] all 0 sp).acc ++ sp.drop (rsOf (qx [10]) 1 [c] [] all 0 sp).done).length ≤ _
    rw [List.length_append, List.length_drop]
    have h1 : (rsOf (qx [10]) 1 [c] [] all 0 sp).acc.length ≤ (rsOf (qx [10]) 1 [c] [] all 0 sp).done := h1
    have h2 : (rsOf (qx [10]) 1 [c] [] all 0 sp).done ≤ sp.length := h2
    omega
  refine ⟨(rsOf (qx [10]) 1 [c] [] all 0 sp).ok, fun w cb co pb hQ hR => ?_, hno, hlen⟩
  obtain ⟨g, cc, n, D, bg, cd, hcd, p1, p2, hbg, hn, hfx⟩ := fixQ_row (t := [10]) (by simp) (by simp) pb w hQ
  obtain ⟨nt, fx, hnt⟩ := hfx sp (by omega)
  have hz : (ba sp).size = sp.length := ba_size sp
  have its := its_fix fx ((ba sp).size + 1) 0 mc0 (by omega) (by omega) rfl rfl clean0
  rw [hz] at its
  refine (replaced_v (ps := plcs (qx [10]) 1 sp) (ntI := nt) (nt := ntF 1) (L := 1) hR hcd p1 p2 hbg hn (by omega) (by omega) its (fun a _ j hj => hnt a j hj) (fun a _ => ntF_even 1 a 0) (fun a _ => ntF_odd 1 a 0) hle hasc
    (fun i x h hh => by simp at hh) (fun i x h _ _ hh => by simp at hh) (by simp) (by simp) (by omega) (by have := occs_len (q := qx [10] sp) (N := sp.length + 1) (L := 1) (sp.length + 1) 0; unfold plcs; omega) (fun i => by
      have h1 := hone i
      have h2 := stR_le (plain := [c]) (holes := []) (num := 0) (nt := ntF 1) hle i
      omega)).mono ?_
  rintro r w' ⟨k, rs, hrs, rfl⟩
  refine ⟨k, ?_⟩
  have e : rs = rsOf (qx [10]) 1 [c] [] all 0 sp := hrs
  rw [e]
  cases hok : (rsOf (qx [10]) 1 [c] [] all 0 sp).ok with
  | true => rfl
  | false => rw [hno hok]; rfl
end Go.Proofs.YtonnimbcekhbgaaGreatDoor
