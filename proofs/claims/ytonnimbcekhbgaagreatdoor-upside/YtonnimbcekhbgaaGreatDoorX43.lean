/- What the claim needs of: KS KT KU. -/
import Derived.Test.YtonnimbcekhbgaaGreatDoorX42
import Derived.Test.YtonnimbcekhbgaaGreatDoorX19
import Derived.Test.YtonnimbcekhbgaaGreatDoorX40
import Derived.Laws.IdiomStrings
import Derived.Deep.RegionWith
import Derived.Test.YtonnimbcekhbgaaGreatDoorX21
import Derived.Test.YtonnimbcekhbgaaGreatDoorX37

/- KS. -/
namespace Go.Proofs.YtonnimbcekhbgaaGreatDoor
open Go.RowKit

/-- The holes, in a block that stays. -/
def HolesV (fs : List (Nat × Obj)) (v : Value) (H : List (Nat × Nat)) : Prop :=
  ∃ A hc, v = .slice A H.length hc ∧ (H = [] ∨ ∃ hb cells, A = some ⟨hb, 0, none⟩ ∧ (hb, Obj.cells cells 152 (0, 0)) ∈ fs ∧ cells.toList.take (H.length * 2) = holeV H)

/-- What s has. -/
def Repl (Q : Nat → World → Prop) (txt raw : ByteArray) (L : List UInt8) (H : List (Nat × Nat)) (g : Bool) (m : Nat) : Sst → List Value → Sst → List Value → Prop := fun σ cv σ' cv' =>
  ∃ pb gb o1 o2 v fs, (∀ f ∈ σ.fs, f ∈ fs) ∧ σ' = { σ with fs := fs } ∧ (pb, o1) ∈ fs ∧ (gb, o2) ∈ fs ∧ Bears Q pb gb o1 o2 ∧ HolesV fs v H ∧
    cv' = (((((((cv.set 11 (.pointer (some ⟨pb, 0, none⟩))).set 12 (.string txt)).set 13 (.string raw)).set 14 (.string (ba L))).set 15 v).set 16 (.bool g)).set 17 (.int .i64 m))
theorem opR_repl (Q : Nat → World → Prop) (txt raw : ByteArray) (L : List UInt8) (H : List (Nat × Nat)) (g : Bool) (m : Nat) : OpR (Repl Q txt raw L H g m) := ⟨fun _ _ _ _ h => by
    obtain ⟨pb, gb, o1, o2, v, fs, _, _, _, _, _, _, rfl⟩ := h
    rw [List.getElem?_set_ne (by omega), List.getElem?_set_ne (by omega), List.getElem?_set_ne (by omega), List.getElem?_set_ne (by omega), List.getElem?_set_ne (by omega), List.getElem?_set_ne (by omega), List.getElem?_set_ne (by omega)], fun _ _ _ _ h => by
    obtain ⟨pb, gb, o1, o2, v, fs, _, rfl, _⟩ := h; rfl, fun _ _ _ _ h => by
    obtain ⟨pb, gb, o1, o2, v, fs, _, rfl, _⟩ := h; rfl, fun _ _ _ _ h N hN => by
    obtain ⟨pb, gb, o1, o2, v, fs, _, rfl, _⟩ := h
    have q := hN.mono (show N ≤ N + 1 by omega)
    exact ⟨q.1, q.2, q.3⟩⟩
theorem enters_replace : Enters 72 := by intro p q w; simp [go_sem]

set_option maxHeartbeats 400000 in
theorem groups_v {w : World} {p G : Nat} (h : w.cell? ⟨p, 2, none⟩ = some (.int .i64 G)) : Calls Tryz.prog 108 #[.pointer (some ⟨p, 0, none⟩)] w fun r w' => r = .returned (.int .i64 G) ∧ w' = w := by
  go_enter Tryz.func108, Tryz.ntmps108
  go_wp2_with fail
  go_ret
  exact ⟨rfl, rfl⟩

set_option maxRecDepth 100000 in
set_option maxHeartbeats 8000000 in
theorem op_replace (w0 : World) {b : Nat} {src : ByteArray} {k e0 e1 e n1 n2 G m' : Nat} {Q : Nat → World → Prop} {txt : ByteArray} {L : List UInt8} {H : List (Nat × Nat)} {g' : Bool} (hp : PatOk src k e0 Q txt) (hQ : ∀ pb w, Q pb w → w.cell? ⟨pb, 2, none⟩ = some (.int .i64 G)) (hG : G ≤ 9) (hN : newN src G n1 e0 [] [] = some (L, H, e1)) (hF : flN src n2 e1 false 0 = some (g', m', e)) :
    OpOk w0 72 b src k e (Repl Q txt (src.extract e0 (e1 - 1)) L H g' m') := by
  intro w σ cb cv hs hb hl hz hf _
  have HP := hid hp
  have HQ := hid hQ
  have HN := hid hN
  have HFL := hid hF
  clear hp hQ hN hF
  have hlt := hs.cur.lt
  have hne : cb ≠ b := fun e => hf.bk 0 (by rw [e]; rfl)
  have HF := hid hf
  have z11 : cv[11]? = some (.pointer none) := by rw [show 11 = 4 + 7 from rfl, hz.at_, hz]; rfl
  have z12 : cv[12]? = some (.string ⟨#[]⟩) := by rw [show 12 = 4 + 8 from rfl, hz.at_, hz]; rfl
  have z13 : cv[13]? = some (.string ⟨#[]⟩) := by rw [show 13 = 4 + 9 from rfl, hz.at_, hz]; rfl
  have z14 : cv[14]? = some (.string ⟨#[]⟩) := by rw [show 14 = 4 + 10 from rfl, hz.at_, hz]; rfl
  have z15 : cv[15]? = some (.slice none 0 0) := by rw [show 15 = 4 + 11 from rfl, hz.at_, hz]; rfl
  have z16 : cv[16]? = some (.bool false) := by rw [show 16 = 4 + 12 from rfl, hz.at_, hz]; rfl
  have z17 : cv[17]? = some (.int .i64 0) := by rw [show 17 = 4 + 13 from rfl, hz.at_, hz]; rfl
  have z18 : cv[18]? = some (.bool false) := by rw [show 18 = 4 + 14 from rfl, hz.at_, hz]; rfl
  have hln := hl.len
  have HL := hid hl
  have HS := hid hs
  have HB := hid hb
  clear hs hb hl hf hz
  go_enter Tryz.func72, Tryz.ntmps72
  go_wp2_with fail
  refine (HP.out w b HS.out.cur).mono ?_
  rintro r w1 ⟨pb, gb, o1, o2, rfl, ho1, ho2, lpb, lgb, brs, c1, m1⟩
  have BRS := hid brs
  clear brs
  have S1 := hid (HS.out.move m1 c1)
  have B1 := hid (HB.out.keep m1.kp (by simpa using hne))
  have d11 := B1.out.at_ 11 _ z11
  have d12 := B1.out.at_ 12 _ z12
  have f11 := B1.out.free 11
  have f12 := B1.out.free 12
  obtain ⟨cv2, hcv2⟩ : ∃ cv2, cv2 = (cv.set 11 (.pointer (some ⟨pb, 0, none⟩))).set 12 (.string txt) := ⟨_, rfl⟩
  have B2 : Hid (Bl ((w1.setCell ⟨cb, 11, none⟩ (.pointer (some ⟨pb, 0, none⟩))).setCell ⟨cb, 12, none⟩ (.string txt)) cb cv2) := hid (by rw [hcv2]; exact (B1.out.set 11 _ (by omega)).set 12 _ (by rw [List.length_set]; omega))
  have k2 : Kp [cb] w1 ((w1.setCell ⟨cb, 11, none⟩ (.pointer (some ⟨pb, 0, none⟩))).setCell ⟨cb, 12, none⟩ (.string txt)) := (Kp.setCell _ _ (by simp)).trans (Kp.setCell _ _ (by simp))
  have S2 := hid (S1.out.other k2 (fun y hy => by simp at hy; rw [hy]; exact HF.out))
  go_upto_region 1 with fail
  have hcbw : cb < w.heap.size := HB.out.lt
  have p1 : pb < w1.heap.size := lt_of_block ho1
  have p2 : gb < w1.heap.size := lt_of_block ho2
  have hpc : pb ≠ cb := by omega
  have hgc : gb ≠ cb := by omega
  have ho1 := (k2.block pb p1 (by simpa using hpc)).trans ho1
  have ho2 := (k2.block gb p2 (by simpa using hgc)).trans ho2
  have K2 := hid k2
  generalize (w1.setCell ⟨cb, 11, none⟩ (.pointer (some ⟨pb, 0, none⟩))).setCell ⟨cb, 12, none⟩ (.string txt) = w2 at *
  have q11 : cv2[11]? = some (.pointer (some ⟨pb, 0, none⟩)) := by rw [hcv2, List.getElem?_set_ne (by omega), List.getElem?_set_self (by omega)]
  have e11 := B2.out.at_ 11 _ q11
  have cG := HQ.out pb w2 (BRS.out w2 ho1 ho2)
  clear d11 d12 f11 f12 k2
  go_wp2_with fail
  refine (groups_v cG).mono ?_
  rintro r w2' ⟨rfl, rfl⟩
  go_wp2_with fail
  refine (newText_v S2.out.cur hG HN.out).mono ?_
  rintro r w3 ⟨v, rfl, own, c3, m3⟩
  have S3 := hid (S2.out.move m3 c3)
  have B3 := hid (B2.out.keep m3.kp (by simpa using hne))
  have hpb : pb ≠ b := by omega
  have hgb : gb ≠ b := by omega
  have z2 := K2.out.size
  have ho1 := (m3.kp.block pb (by omega) (by simpa using hpb)).trans ho1
  have ho2 := (m3.kp.block gb (by omega) (by simpa using hgb)).trans ho2
  have q13 : cv2[13]? = some (.string ⟨#[]⟩) := by rw [hcv2, List.getElem?_set_ne (by omega), List.getElem?_set_ne (by omega)]; exact z13
  have q14 : cv2[14]? = some (.string ⟨#[]⟩) := by rw [hcv2, List.getElem?_set_ne (by omega), List.getElem?_set_ne (by omega)]; exact z14
  have q15 : cv2[15]? = some (.slice none 0 0) := by rw [hcv2, List.getElem?_set_ne (by omega), List.getElem?_set_ne (by omega)]; exact z15
  have hln2 : cv2.length = 23 := by rw [hcv2]; simp [hln]
  have OW := hid own
  obtain ⟨A, hc, rfl⟩ := own_slice own
  clear own e11 cG
  have d13 := B3.out.at_ 13 _ q13
  have d14 := B3.out.at_ 14 _ q14
  have d15 := B3.out.at_ 15 _ q15
  have f13 := B3.out.free 13
  have f14 := B3.out.free 14
  have f15 := B3.out.free 15
  obtain ⟨raw, hraw⟩ : ∃ raw, raw = src.extract e0 (e1 - 1) := ⟨_, rfl⟩
  rw [← hraw]
  have HRAW := hid hraw
  clear hraw
  obtain ⟨cv4, hcv4⟩ : ∃ cv4, cv4 = ((cv2.set 13 (.string raw)).set 14 (.string (ba L))).set 15 (.slice A H.length hc) := ⟨_, rfl⟩
  have B4 : Hid (Bl (((w3.setCell ⟨cb, 13, none⟩ (.string raw)).setCell ⟨cb, 14, none⟩ (.string (ba L))).setCell ⟨cb, 15, none⟩ (.slice A H.length hc)) cb cv4) := hid (by
    rw [hcv4]; exact ((B3.out.set 13 _ (by omega)).set 14 _ (by rw [List.length_set]; omega)).set 15 _ (by rw [List.length_set, List.length_set]; omega))
  have k4 : Kp [cb] w3 (((w3.setCell ⟨cb, 13, none⟩ (.string raw)).setCell ⟨cb, 14, none⟩ (.string (ba L))).setCell ⟨cb, 15, none⟩ (.slice A H.length hc)) := (Kp.setCell _ _ (by simp)).trans ((Kp.setCell _ _ (by simp)).trans (Kp.setCell _ _ (by simp)))
  have S4 := hid (S3.out.other k4 (fun y hy => by simp at hy; rw [hy]; exact HF.out))
  go_upto_region 2 with fail
  have z3 := m3.kp.size
  have ho1 := (k4.block pb (by omega) (by simpa using hpc)).trans ho1
  have ho2 := (k4.block gb (by omega) (by simpa using hgc)).trans ho2
  have OW4 := hid (own_block OW.out (fun g hg => k4.block g (own_lt OW.out hg).2 (by rw [List.mem_singleton]; have := (own_lt OW.out hg).1; omega)))
  have z4 := k4.size
  generalize ((w3.setCell ⟨cb, 13, none⟩ (.string raw)).setCell ⟨cb, 14, none⟩ (.string (ba L))).setCell ⟨cb, 15, none⟩ (.slice A H.length hc) = w4 at *
  clear d13 d14 d15 f13 f14 f15 k4
  have hln4 : cv4.length = 23 := by rw [hcv4]; simp [hln2]
  have HL2 : Cv cv2 := by rw [hcv2]; exact (HL.out.set 11 rfl).set 12 rfl
  have HL4 : Hid (Cv cv4) := hid (by rw [hcv4]; exact ((HL2.set 13 rfl).set 14 rfl).set 15 rfl)
  have g16 : cv4[16]? = some (.bool false) := by rw [hcv4, List.getElem?_set_ne (by omega), List.getElem?_set_ne (by omega), List.getElem?_set_ne (by omega), hcv2, List.getElem?_set_ne (by omega), List.getElem?_set_ne (by omega)]; exact z16
  have g17 : cv4[17]? = some (.int .i64 0) := by rw [hcv4, List.getElem?_set_ne (by omega), List.getElem?_set_ne (by omega), List.getElem?_set_ne (by omega), hcv2, List.getElem?_set_ne (by omega), List.getElem?_set_ne (by omega)]; exact z17
  have g18 : cv4[18]? = some (.bool false) := by rw [hcv4, List.getElem?_set_ne (by omega), List.getElem?_set_ne (by omega), List.getElem?_set_ne (by omega), hcv2, List.getElem?_set_ne (by omega), List.getElem?_set_ne (by omega)]; exact z18
  have e4 : (cv4.set 16 (.bool false)).set 17 (.int .i64 ((0 : Nat) : Int)) = cv4 := by
    apply List.ext_getElem? 
    intro j
    by_cases h17 : j = 17
    · subst h17; rw [List.getElem?_set_self (by rw [List.length_set]; omega), g17]; rfl
    · rw [List.getElem?_set_ne (Ne.symm h17)]
      by_cases h16 : j = 16
      · subst h16; rw [List.getElem?_set_self (by omega), g16]
      · rw [List.getElem?_set_ne (Ne.symm h16)]
  obtain ⟨new, hnew, hfs⟩ : ∃ new : List (Nat × Obj), (∀ f ∈ new, w4.heap[f.1]? = some f.2 ∧ w.heap.size ≤ f.1) ∧ ∀ fs, (∀ f ∈ new, f ∈ fs) → (pb, o1) ∈ fs ∧ (gb, o2) ∈ fs ∧ HolesV fs (.slice A H.length hc) H := by
    rcases OW4.out.2 with ⟨q1, q2⟩ | ⟨hb', cap, cur, q1, q2, q3, q4, q5, q6, q7⟩
    · refine ⟨[(pb, o1), (gb, o2)], fun f hf => ?_, fun fs h => ⟨h _ (by simp), h _ (by simp), A, hc, rfl, .inl (List.eq_nil_of_length_eq_zero q2)⟩⟩
      simp only [List.mem_cons, List.mem_nil_iff, or_false] at hf
      rcases hf with rfl | rfl
      · exact ⟨ho1, lpb⟩
      · exact ⟨ho2, lgb⟩
    · injection q1 with e1 e2 e3
      refine ⟨[(pb, o1), (gb, o2), (hb', .cells cur 152 (0, 0))], fun f hf => ?_, fun fs h => ⟨h _ (by simp), h _ (by simp), A, hc, rfl, .inr ⟨hb', cur, e1, h _ (by simp), q7⟩⟩⟩
      simp only [List.mem_cons, List.mem_nil_iff, or_false] at hf
      rcases hf with rfl | rfl | rfl
      · exact ⟨ho1, lpb⟩
      · exact ⟨ho2, lgb⟩
      · exact ⟨q3, by have := m1.kp.size; show w.heap.size ≤ hb'; omega⟩
  have S5 := S4.out.addFacts new (fun f hf => ⟨(hnew f hf).1, (HS.out.far_new (hnew f hf).2).lo, (HS.out.far_new (hnew f hf).2).bk⟩)
  have F5 : Sr.Far w0 b { σ with fs := new ++ σ.fs } cb := ⟨HF.out.lo, HF.out.bk, fun f hf => by
    rcases List.mem_append.1 hf with q | q
    · have := (hnew f q).2; omega
    · exact HF.out.fx f q⟩
  have HNEW := hid hfs
  clear hfs hnew
  go_wp2_with fail
  refine (flags_v (cv := cv4) S5 (by rw [e4]; exact B4.out) HL4.out F5 g18 HFL.out).mono ?_
  rintro r w5 ⟨rfl, s5, b5⟩
  go_wp2_with fail
  go_end0
  obtain ⟨i1, i2, i3⟩ := HNEW.out (new ++ σ.fs) (fun f hf => List.mem_append_left _ hf)
  refine ⟨_, _, rfl, s5, b5, (HL4.out.set 16 rfl).set 17 rfl, F5, pb, gb, o1, o2, _, new ++ σ.fs, fun f hf => List.mem_append_right _ hf, rfl, i1, i2, BRS.out, i3, ?_⟩
  rw [hcv4, hcv2, HRAW.out]
end Go.Proofs.YtonnimbcekhbgaaGreatDoor

/- KT. -/
namespace Go.Proofs.YtonnimbcekhbgaaGreatDoor
open Go.RowKit

section
variable {q : Nat → Bool} {N L : Nat}
theorem occs_at : ∀ (k fr : Nat), ∀ i a, (occs q N L k fr)[i]? = some a → q a = true ∧ fr ≤ a ∧ ∀ a', (occs q N L k fr)[i + 1]? = some a' → a + L ≤ a'
  | 0, _, _, _, h => by cases h
  | k + 1, fr, i, a, h => by
    unfold occs at h ⊢
    cases hn : nextO q N fr with
    | none => rw [hn] at h; cases h
    | some c =>
      rw [hn] at h
      obtain ⟨h1, h2, h3, h4⟩ := nextO_some hn
      match i, h with
      | 0, h =>
        injection h with h
        subst h
        refine ⟨h3, h1, fun a' ha' => ?_⟩
        exact (occs_at k (c + L) 0 a' ha').2.1
      | i + 1, h =>
        obtain ⟨g1, g2, g3⟩ := occs_at k (c + L) i a h
        exact ⟨g1, by omega, g3⟩
theorem occs_len : ∀ (k fr : Nat), (occs q N L k fr).length ≤ k
  | 0, _ => Nat.le_refl _
  | k + 1, fr => by
    unfold occs
    cases nextO q N fr with
    | none => simp
    | some c => have := occs_len k (c + L); simp; omega
end

section
variable {sp plain : List UInt8} {holes : List (Nat × Nat)} {L num : Nat} {nt : Nat → Nat → Nat} {ps : List Nat}
theorem stR_no : ∀ i, (stR sp plain holes L num nt ps i).ok = false → stR sp plain holes L num nt ps i = ⟨[], 0, false⟩
  | 0, _ => rfl
  | i + 1, h => by
    rcases h1 : ps[i]? with _ | a
    · have h2 := List.getElem?_eq_none_iff.1 h1
      have e : stR sp plain holes L num nt ps (i + 1) = stR sp plain holes L num nt ps i := by
        unfold stR
        rw [List.take_of_length_le (show ps.length ≤ i + 1 by omega), List.take_of_length_le h2]
      rw [e] at h ⊢
      exact stR_no i h
    · rw [stR_succ h1] at h ⊢
      unfold stepR at h ⊢
      split at h
      · rename_i hlt
        rw [if_pos hlt]
        exact stR_no i h
      · cases h

/-- What the law tells, place by place: up to where, and what. -/
def lawR (sp : List UInt8) (L : Nat) (f : Nat → List UInt8) : Nat → List Nat → Nat × List UInt8 → Nat × List UInt8
  | _, [], r => r
  | i, a :: rest, r => lawR sp L f (i + 1) rest (a + L, r.2 ++ (sp.take a).drop r.1 ++ f i)
def lawT (sp : List UInt8) (L : Nat) (f : Nat → List UInt8) (ps : List Nat) : List UInt8 := (lawR sp L f 0 ps (0, [])).2 ++ sp.drop (lawR sp L f 0 ps (0, [])).1
theorem lawR_snoc {f : Nat → List UInt8} (a : Nat) : ∀ (xs : List Nat) (k : Nat) (r : Nat × List UInt8), lawR sp L f k (xs ++ [a]) r = (a + L, (lawR sp L f k xs r).2 ++ (sp.take a).drop (lawR sp L f k xs r).1 ++ f (k + xs.length))
  | [], k, r => rfl
  | x :: xs, k, r => by
    show lawR sp L f (k + 1) (xs ++ [a]) _ = _
    rw [lawR_snoc a xs (k + 1), List.length_cons, show k + 1 + xs.length = k + (xs.length + 1) by omega]
    rfl
theorem cutR (sp : List UInt8) {d a : Nat} (h : d ≤ a) : sp.drop d = (sp.take a).drop d ++ sp.drop a := by
  conv => lhs; rw [← List.take_append_drop a sp]
  rw [List.drop_append]
  by_cases hl : a ≤ sp.length
  · rw [List.length_take, Nat.min_eq_left hl, show d - a = 0 by omega, List.drop_zero]
  · rw [List.drop_eq_nil_of_le (show sp.length ≤ a by omega)]; simp

/-- What the law tells is what is made. -/
theorem law_is {f : Nat → List UInt8} {n : Nat} (hasc : ∀ i a a' : Nat, ps[i]? = some a → ps[i + 1]? = some a' → a + L ≤ a') (hle : ∀ a ∈ ps, a + L ≤ sp.length)
    (h1 : ∀ i a, ps[i]? = some a → i < n → ¬ i + 1 < num → f i = putN plain sp (nt a) 0 holes) (h2 : ∀ i a, ps[i]? = some a → (i + 1 < num ∨ n ≤ i) → f i = (sp.take (a + L)).drop a) :
    lawT sp L f ps = (stR sp plain holes L num nt ps n).acc ++ sp.drop (stR sp plain holes L num nt ps n).done := by
  have key : ∀ i, i ≤ ps.length → ((lawR sp L f 0 (ps.take i) (0, [])).2 ++ sp.drop (lawR sp L f 0 (ps.take i) (0, [])).1 = (stR sp plain holes L num nt ps (min i n)).acc ++ sp.drop (stR sp plain holes L num nt ps (min i n)).done) ∧ (∀ a, ps[i]? = some a → (lawR sp L f 0 (ps.take i) (0, [])).1 ≤ a) := by
    intro i
    induction i with
    | zero => intro _; exact ⟨by rw [Nat.zero_min]; rfl, fun a _ => Nat.zero_le _⟩
    | succ i ih =>
      intro hi
      obtain ⟨a, ha⟩ : ∃ a, ps[i]? = some a := ⟨_, List.getElem?_eq_getElem (show i < ps.length by omega)⟩
      obtain ⟨e1, e2⟩ := ih (by omega)
      have e2 := e2 a ha
      have hal := hle a (List.mem_of_getElem? ha)
      have hr : lawR sp L f 0 (ps.take (i + 1)) (0, []) = (a + L, (lawR sp L f 0 (ps.take i) (0, [])).2 ++ (sp.take a).drop (lawR sp L f 0 (ps.take i) (0, [])).1 ++ f i) := by
        rw [List.take_add_one, ha]
        show lawR sp L f 0 (ps.take i ++ [a]) _ = _
        rw [lawR_snoc, Nat.zero_add, List.length_take, Nat.min_eq_left (by omega)]
      refine ⟨?_, fun a' ha' => by rw [hr]; exact hasc i a a' ha ha'⟩
      rw [hr]
      generalize lawR sp L f 0 (ps.take i) (0, []) = r at *
      obtain ⟨d, T⟩ := r
      simp only at e1 e2 ⊢
      rw [cutR sp e2] at e1
      by_cases hn : i < n
      · rw [Nat.min_eq_left (by omega)] at e1
        rw [Nat.min_eq_left (by omega)]
        have hd := stR_done (sp := sp) (plain := plain) (holes := holes) (num := num) (nt := nt) hasc i a ha
        rw [stR_succ ha]
        unfold stepR
        by_cases hlt : i + 1 < num
        · rw [if_pos hlt, ← e1, h2 i a ha (.inl hlt), List.append_assoc, List.append_assoc, ← cutR sp (show a ≤ a + L by omega)]
        · rw [if_neg hlt, h1 i a ha hn hlt]
          rw [cutR sp hd, ← List.append_assoc, ← List.append_assoc] at e1
          have e3 := List.append_cancel_right e1
          simp only
          rw [e3]
      · rw [Nat.min_eq_right (by omega)] at e1
        rw [Nat.min_eq_right (by omega), ← e1, h2 i a ha (.inr (by omega)), List.append_assoc, List.append_assoc, ← cutR sp (show a ≤ a + L by omega)]
  have k := (key ps.length (Nat.le_refl _)).1
  rw [List.take_length] at k
  unfold lawT
  rw [k]
  by_cases hn : n ≤ ps.length
  · rw [Nat.min_eq_right hn]
  · rw [Nat.min_eq_left (by omega)]
    have e : stR sp plain holes L num nt ps ps.length = stR sp plain holes L num nt ps n := by
      unfold stR
      rw [List.take_length, List.take_of_length_le (by omega)]
    rw [e]
end

section
variable {w0 w w' : World} {mb sb db lo hi : Nat} {s s' : Mst} {σ : Sst} {ls : List (List UInt8)}

theorem enters_s : Enters 42 := by intro p q w; simp [go_sem]
theorem deed_s : Instr.findNow (.int .u8) (.int .u8 ((115 : Nat) : Int)) (tabE 0 deedsL) 0 = some (some (6, .func (.func 42) #[] #[])) := by kernel_rfl

/-- An s: its pattern, what is put there, its flags. -/
structure IsS (σ : Sst) (c : List Value) (Q : Nat → World → Prop) (L : List UInt8) (H : List (Nat × Nat)) (g : Bool) (m : Nat) : Prop where
  pl : Plain c 115
  c6 : c[6]? = some (.string ⟨#[]⟩)
  c14 : c[14]? = some (.string (ba L))
  c16 : c[16]? = some (.bool g)
  c17 : c[17]? = some (.int .i64 m)
  c18 : c[18]? = some (.bool false)
  pat : ∃ pb gb o1 o2, c[11]? = some (.pointer (some ⟨pb, 0, none⟩)) ∧ (pb, o1) ∈ σ.fs ∧ (gb, o2) ∈ σ.fs ∧ Bears Q pb gb o1 o2
  hol : ∃ v, c[15]? = some v ∧ HolesV σ.fs v H

/-- A command without an address is done; what it holds is known, and lies in the script. -/
theorem look_holds2 {p p3 : Pst} {c : List Value} {x i f : Nat} (hs : Scr lo hi w0 sb 0 σ) (hc : σ.cs[p.pc]? = some c) (hP : Plain c x)
    (ht : Instr.findNow (.int .u8) (.int .u8 x) (tabE 0 deedsL) 0 = some (some (i, .func (.func f) #[] #[]))) (hst : p.steps < 2000) (hpc : p.pc < 2000) (hen : Enters f)
    (hD : ∀ w2 s2 g, g < w0.heap.size → Mac w0 w2 mb sb db s2 → s2.p = p.on → (∀ j u, c[j]? = some u → w2.cell? ⟨g, p.pc * 23 + j, none⟩ = some u) → Calls Tryz.prog f #[.pointer (some ⟨mb, 0, none⟩), .pointer (some ⟨g, p.pc * 23, none⟩)] w2 fun r w' => r = .returned (.tuple #[]) ∧ Goes w0 mb sb db w2 s2 w' p3) : Look w0 mb sb db p p3 := fun w s hM hp => by
  have e1 : s.pc = p.pc := congrArg Pst.pc hp
  have e2 : s.steps = p.steps := congrArg Pst.steps hp
  obtain ⟨A, ca, h0⟩ := hP.c0
  obtain ⟨g, cap, hv, _⟩ := hs.cmd hc
  have hg : g < w0.heap.size := Nat.lt_of_lt_of_le (hs.h4 g (by rw [hv]; rfl)) hs.hi_le
  have key : ∀ wx, Kp [] w0 wx → ∀ j u, c[j]? = some u → wx.cell? ⟨g, p.pc * 23 + j, none⟩ = some u := fun wx kx => by
    obtain ⟨g', cap', hv', hcell⟩ := (hs.keep kx (fun _ e => by cases e)).cmd hc
    obtain rfl : g' = g := by rw [hv] at hv'; injection hv' with e _ _; injection e with e; injection e with e; exact e.symm
    exact hcell
  refine look_do (b := true) (p2 := p.on) hM hs (by rw [e1]; exact hc) hv hP.c3 hP.c2 ht (by omega) (by omega) hen (fun w1 s1 m1 q1' => ?_) rfl (fun w2 s2 m2 q2 => by rw [e1]; exact hD w2 s2 g hg m2 q2 (key w2 m2.r.kp))
  have e3 : s1.p = p.on := by rw [q1', hp, e1, e2]; rfl
  rw [← e3, e1]
  exact addressed_none m1 (key _ m1.r.kp 0 _ h0)

/-- What becomes of a text. -/
def Becomes (Q : Nat → World → Prop) (L : List UInt8) (H : List (Nat × Nat)) (g : Bool) (m : Nat) (sp T : List UInt8) (ok : Bool) : Prop :=
  ∀ w cb co pb, Q pb w → Rp w cb co pb L H g m → Calls Tryz.prog 84 #[.string (ba sp), .pointer (some ⟨cb, co, none⟩)] w fun r w' => Kp [] w w' ∧ r = .returned (.tuple #[.string (ba T), .bool ok])

theorem hole_cell {H : List (Nat × Nat)} {i a g : Nat} (h : H[i]? = some (a, g)) : (holeV H)[i * 2]? = some (.int .i64 (a : Int)) ∧ (holeV H)[i * 2 + 1]? = some (.int .i64 (g : Int)) := by
  induction H generalizing i with
  | nil => cases h
  | cons q H ih =>
    match i, h with
    | 0, h => injection h with h; subst h; exact ⟨rfl, rfl⟩
    | i + 1, h =>
      obtain ⟨h1, h2⟩ := ih (i := i) h
      constructor
      · rw [show (i + 1) * 2 = i * 2 + 2 by omega]; exact h1
      · rw [show (i + 1) * 2 + 1 = i * 2 + 1 + 2 by omega]; exact h2
theorem look_repl {p : Pst} {c : List Value} {Q : Nat → World → Prop} {L : List UInt8} {H : List (Nat × Nat)} {g : Bool} {m : Nat} {sp T : List UInt8} {ok : Bool} (hs : Scr lo hi w0 sb 0 σ) (hc : σ.cs[p.pc]? = some c) (hS : IsS σ c Q L H g m) (hst : p.steps < 2000) (hpc : p.pc < 2000) (hsp : p.space = ba sp) (hT : T.length ≤ 4000) (hB : Becomes Q L H g m sp T ok) :
    Look w0 mb sb db p (p.on.replaced T ok) := by
  refine look_holds2 hs hc hS.pl deed_s hst hpc enters_s (fun w2 s2 gb hgb m2 e2 hcell => ?_)
  have es : s2.space = ba sp := (congrArg Pst.space e2).trans hsp
  obtain ⟨pb, gp, o1, o2, p11, i1, i2, brs⟩ := hS.pat
  obtain ⟨v, p15, A, hc', rfl, hol⟩ := hS.hol
  have k2 := m2.r.kp
  have hfx : ∀ f ∈ σ.fs, w2.heap[f.1]? = some f.2 := fun f hf => (k2.block f.1 (lt_of_block (hs.fx f hf).1) (by simp)).trans (hs.fx f hf).1
  have hn : ∀ i, maB mb db s2.r i ≠ some gb := fun i e => by have := m2.r.bk.lo i gb e; omega
  have := replace_v (T := T) (ok := ok) (ca := gb) (co := p.pc * 23) m2 es hT (hcell 18 _ hS.c18) (hcell 6 _ hS.c6) hn (fun w3 k3 => ?_)
  · rw [e2] at this
    exact this
  · have c3 : ∀ j u, c[j]? = some u → w3.cell? ⟨gb, p.pc * 23 + j, none⟩ = some u := fun j u hu => (k3.cell (World.block_lt_of_cell? _ _ (hcell j u hu)) (by simp)).trans (hcell j u hu)
    have f3 : ∀ f ∈ σ.fs, w3.heap[f.1]? = some f.2 := fun f hf => (k3.block f.1 (lt_of_block (hfx f hf)) (by simp)).trans (hfx f hf)
    refine hB w3 gb (p.pc * 23 + 11) pb (brs w3 (f3 _ i1) (f3 _ i2)) ⟨c3 11 _ p11, c3 14 _ hS.c14, ⟨A, hc', c3 15 _ p15, fun i a g h => ?_⟩, c3 16 _ hS.c16, c3 17 _ hS.c17⟩
    rcases hol with rfl | ⟨hb, cells, rfl, hm, ht⟩
    · cases h
    · have hh := f3 _ hm
      have hi : i < H.length := (List.getElem?_eq_some_iff.1 h).1
      obtain ⟨q1, q2⟩ := hole_cell h
      rw [← ht, List.getElem?_take, if_pos (by omega)] at q1 q2
      refine ⟨hb, rfl, ?_, ?_⟩
      · simp only [World.cell?, hh]; simpa using q1
      · simp only [World.cell?, hh]; simpa using q2

end
end Go.Proofs.YtonnimbcekhbgaaGreatDoor

/- KU. -/
namespace Go.Proofs.YtonnimbcekhbgaaGreatDoor
open Go.RowKit

/-- The notes of a place: whole, and each group. -/
def ntF (L a j : Nat) : Nat := if j % 2 = 0 then a else a + L
theorem ntF_even (L a h : Nat) : ntF L a (2 * h) = a := by unfold ntF; rw [if_pos (by omega)]
theorem ntF_odd (L a h : Nat) : ntF L a (2 * h + 1) = a + L := by unfold ntF; rw [if_neg (by omega)]

/-- A pattern in memory that is found where q says so, L bytes long. -/
def FixQ (Q : Nat → World → Prop) (L G : Nat) (q : List UInt8 → Nat → Bool) : Prop :=
  ∀ pb w, Q pb w → ∃ g c n D bg cd, Cd w pb g c n D cd ∧ w.cell? ⟨pb, 1, none⟩ = some (.int .i64 ((bg : Nat) : Int)) ∧ w.cell? ⟨pb, 2, none⟩ = some (.int .i64 G) ∧ bg < n ∧ n * (D + 1) ≤ 9000 ∧
    ∀ sp : List UInt8, sp.length ≤ 4000 → ∃ nt, Fix cd n D bg (ba sp) L (q sp) nt ∧ ∀ a j, j < 2 + 2 * G → nt a j = (ntF L a j : Int)

/-- All its places. -/
def plcs (q : List UInt8 → Nat → Bool) (L : Nat) (sp : List UInt8) : List Nat := occs (q sp) (sp.length + 1) L (sp.length + 1) 0
/-- What is told of them. -/
def rsOf (q : List UInt8 → Nat → Bool) (L : Nat) (plain : List UInt8) (holes : List (Nat × Nat)) (all : Bool) (num : Nat) (sp : List UInt8) : Rs :=
  stR sp plain holes L num (ntF L) (plcs q L sp) (if all then (plcs q L sp).length else max num 1)
def repT (q : List UInt8 → Nat → Bool) (L : Nat) (plain : List UInt8) (holes : List (Nat × Nat)) (all : Bool) (num : Nat) (sp : List UInt8) : List UInt8 :=
  (rsOf q L plain holes all num sp).acc ++ sp.drop (rsOf q L plain holes all num sp).done

section
variable {Q : Nat → World → Prop} {L G num : Nat} {q : List UInt8 → Nat → Bool} {plain : List UInt8} {holes : List (Nat × Nat)} {all : Bool}
theorem plcs_asc (sp : List UInt8) : ∀ i a a' : Nat, (plcs q L sp)[i]? = some a → (plcs q L sp)[i + 1]? = some a' → a + L ≤ a' := fun i a a' h h' => (occs_at _ _ i a h).2.2 a' h'
theorem plcs_q {sp : List UInt8} {a : Nat} (h : a ∈ plcs q L sp) : q sp a = true := by
  obtain ⟨i, hi, e⟩ := List.getElem_of_mem h
  exact (occs_at _ _ i a (by rw [← e]; exact List.getElem?_eq_getElem hi)).1

/-- A row of bytes. -/
theorem fixQ_row {t : List UInt8} (ht : t.length ≤ 150) (h1 : 1 ≤ t.length) : FixQ (rowQ t) t.length 0 (fun sp a => standsB (ba sp) (ba t) a) := by
  intro p w pt
  have hlen : (rowP t).length = t.length := (pcsOf_len (B := 0) (E := 0) (L := t.length) (ms := msOf t) (by omega) (by omega)).trans (by omega)
  obtain ⟨g, c, hcd⟩ := cd_of pt (fun q hq => pcsOf_kind q hq)
  have c1 := pt.c1
  have c2 := pt.c2
  have ebg : rowBegin (rowP t).reverse 1 0 = ((t.length : Nat) : Int) := by
    rw [rowBegin_eq]
    by_cases h0 : (rowP t).reverse = []
    · rw [if_pos h0]
      have : (rowP t).length = 0 := by rw [← List.length_reverse, h0]; rfl
      have h3 : t.length = 0 := by omega
      rw [h3]; rfl
    · rw [if_neg h0, List.length_reverse, hlen]; congr 1; omega
  rw [ebg] at c1
  have hok : Cok (cdOf (rowP t)) (1 + (rowP t).length) 0 (0 + t.length + 0) := ⟨hcd.ok, fun a ha h3 => absurd h3 (by have := (cdOf_kind (rowP t) (fun q hq => pcsOf_kind q hq) a ha); omega), by omega⟩
  refine ⟨g, c, 1 + (rowP t).length, 0, 0 + t.length + 0, cdOf (rowP t), hcd, by rw [c1]; congr 2; omega, c2, by omega, by omega, fun sp _ => ?_⟩
  have key : ∀ a, standsB (ba sp) (ba t) a = true ↔ Stands 0 0 t.length (msOf t) (ba sp) a := fun a => by
    rw [stands_iff, ba_size, ba_list]
    constructor
    · rintro ⟨h1, h2⟩; exact ⟨.inl rfl, h1, h2, fun h => by omega⟩
    · rintro ⟨_, h1, h2, _⟩; exact ⟨h1, h2⟩
  refine ⟨_, fix_row hok (chain_of (by omega) (by omega)) h1 key, fun a j hj => ?_⟩
  match j, hj with
  | 0, _ => simp [nu, nz, ntF]
  | 1, _ => simp [nu, ntF]
end
end Go.Proofs.YtonnimbcekhbgaaGreatDoor
