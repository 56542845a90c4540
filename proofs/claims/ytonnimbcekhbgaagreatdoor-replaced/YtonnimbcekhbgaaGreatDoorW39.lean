/- What the claim needs of: KS. -/
import Derived.Test.YtonnimbcekhbgaaGreatDoorW38
import Derived.Test.YtonnimbcekhbgaaGreatDoorW28

/- KS. -/
namespace Go.Proofs.YtonnimbcekhbgaaGreatDoor
open Go.RowKit

/-- The holes, in a block that stays. -/
def HolesV (fs : List (Nat × Obj)) (v : Value) (H : List (Nat × Nat)) : Prop :=
  ∃ A hc, v = .slice A H.length hc ∧ (H = [] ∨ ∃ hb cells, A = some ⟨hb, 0, none⟩ ∧ (hb, Obj.cells cells 152 (0, 0)) ∈ fs ∧ cells.toList.take (H.length * 2) = holeV H)

/-- What s has. -/
def Repl (Q : Nat → World → Prop) (txt raw : ByteArray) (L : List UInt8) (H : List (Nat × Nat)) (g : Bool) (m : Nat) : Sst → List Value → Sst → List Value → Prop := fun σ cv σ' cv' =>
  ∃ pb gb o1 o2 v fs, (∀ f ∈ σ.fs, f ∈ fs) ∧ σ' = { σ with fs := fs } ∧ (pb, o1) ∈ fs ∧ (gb, o2) ∈ fs ∧ Bears Q pb gb o1 o2 ∧ HolesV fs v H ∧
    cv' = (((((((cv.set 11 (.pointer (some ⟨pb, 0, none⟩))).set 12 (.string txt)).set 13 (.string raw)).set 14 (.string (ba L))).set 15 v).set 16 (.bool g)).set 17 (.int .i64 m))
theorem opR_repl (Q : Nat → World → Prop) (txt raw : ByteArray) (L : List UInt8) (H : List (Nat × Nat)) (g : Bool) (m : Nat) : OpR (Repl Q txt raw L H g m) := ⟨fun _ _ _ _ h => by
    obtain ⟨pb, gb, o1, o2, v, fs, _, _, _, _, _, _, rfl⟩ := h
    rw [List.getElem?_set_ne (by omega), List.getElem?_set_ne (by omega), List.getElem?_set_ne (by omega), List.getElem?_set_ne (by omega), List.getElem?_set_ne (by omega), List.getElem?_set_ne (by omega), List.getElem?_set_ne (by omega)], fun _ _ _ _ h => by
    obtain ⟨pb, gb, o1, o2, v, fs, _, rfl, _⟩ := h; rfl, fun _ _ _ _ h => by
    obtain ⟨pb, gb, o1, o2, v, fs, _, rfl, _⟩ := h; rfl, fun _ _ _ _ h N hN => by
    obtain ⟨pb, gb, o1, o2, v, fs, _, rfl, _⟩ := h
    have q := hN.mono (show N ≤ N + 1 by omega)
    exact ⟨q.1, q.2, q.3⟩⟩
theorem enters_replace : Enters 72 := by intro p q w; simp [go_sem]

set_option maxHeartbeats 400000 in
theorem groups_v {w : World} {p G : Nat} (h : w.cell? ⟨p, 2, none⟩ = some (.int .i64 G)) : Calls Tryz.prog 108 #[.pointer (some ⟨p, 0, none⟩)] w fun r w' => r = .returned (.int .i64 G) ∧ w' = w := by
  go_enter Tryz.func108, Tryz.ntmps108
  go_wp2_with fail
  go_ret
  exact ⟨rfl, rfl⟩

set_option maxRecDepth 100000 in
set_option maxHeartbeats 8000000 in
theorem op_replace (w0 : World) {b : Nat} {src : ByteArray} {k e0 e1 e n1 n2 G m' : Nat} {Q : Nat → World → Prop} {txt : ByteArray} {L : List UInt8} {H : List (Nat × Nat)} {g' : Bool} (hp : PatOk src k e0 Q txt) (hQ : ∀ pb w, Q pb w → w.cell? ⟨pb, 2, none⟩ = some (.int .i64 G)) (hG : G ≤ 9) (hN : newN src G n1 e0 [] [] = some (L, H, e1)) (hF : flN src n2 e1 false 0 = some (g', m', e)) :
    OpOk w0 72 b src k e (Repl Q txt (src.extract e0 (e1 - 1)) L H g' m') := by
  intro w σ cb cv hs hb hl hz hf _
  have HP := hid hp
  have HQ := hid hQ
  have HN := hid hN
  have HFL := hid hF
  clear hp hQ hN hF
  have hlt := hs.cur.lt
  have hne : cb ≠ b := fun e => hf.bk 0 (by rw [e]; rfl)
  have HF := hid hf
  have z11 : cv[11]? = some (.pointer none) := by rw [show 11 = 4 + 7 from rfl, hz.at_, hz]; rfl
  have z12 : cv[12]? = some (.string ⟨#[]⟩) := by rw [show 12 = 4 + 8 from rfl, hz.at_, hz]; rfl
  have z13 : cv[13]? = some (.string ⟨#[]⟩) := by rw [show 13 = 4 + 9 from rfl, hz.at_, hz]; rfl
  have z14 : cv[14]? = some (.string ⟨#[]⟩) := by rw [show 14 = 4 + 10 from rfl, hz.at_, hz]; rfl
  have z15 : cv[15]? = some (.slice none 0 0) := by rw [show 15 = 4 + 11 from rfl, hz.at_, hz]; rfl
  have z16 : cv[16]? = some (.bool false) := by rw [show 16 = 4 + 12 from rfl, hz.at_, hz]; rfl
  have z17 : cv[17]? = some (.int .i64 0) := by rw [show 17 = 4 + 13 from rfl, hz.at_, hz]; rfl
  have z18 : cv[18]? = some (.bool false) := by rw [show 18 = 4 + 14 from rfl, hz.at_, hz]; rfl
  have hln := hl.len
  have HL := hid hl
  have HS := hid hs
  have HB := hid hb
  clear hs hb hl hf hz
  go_enter Tryz.func72, Tryz.ntmps72
  go_wp2_with fail
  refine (HP.out w b HS.out.cur).mono ?_
  rintro r w1 ⟨pb, gb, o1, o2, rfl, ho1, ho2, lpb, lgb, brs, c1, m1⟩
  have BRS := hid brs
  clear brs
  have S1 := hid (HS.out.move m1 c1)
  have B1 := hid (HB.out.keep m1.kp (by simpa using hne))
  have d11 := B1.out.at_ 11 _ z11
  have d12 := B1.out.at_ 12 _ z12
  have f11 := B1.out.free 11
  have f12 := B1.out.free 12
  obtain ⟨cv2, hcv2⟩ : ∃ cv2, cv2 = (cv.set 11 (.pointer (some ⟨pb, 0, none⟩))).set 12 (.string txt) := ⟨_, rfl⟩
  have B2 : Hid (Bl ((w1.setCell ⟨cb, 11, none⟩ (.pointer (some ⟨pb, 0, none⟩))).setCell ⟨cb, 12, none⟩ (.string txt)) cb cv2) := hid (by rw [hcv2]; exact (B1.out.set 11 _ (by omega)).set 12 _ (by rw [List.length_set]; omega))
  have k2 : Kp [cb] w1 ((w1.setCell ⟨cb, 11, none⟩ (.pointer (some ⟨pb, 0, none⟩))).setCell ⟨cb, 12, none⟩ (.string txt)) := (Kp.setCell _ _ (by simp)).trans (Kp.setCell _ _ (by simp))
  have S2 := hid (S1.out.other k2 (fun y hy => by simp at hy; rw [hy]; exact HF.out))
  go_upto_region 1 with fail
  have hcbw : cb < w.heap.size := HB.out.lt
  have p1 : pb < w1.heap.size := lt_of_block ho1
  have p2 : gb < w1.heap.size := lt_of_block ho2
  have hpc : pb ≠ cb := by omega
  have hgc : gb ≠ cb := by omega
  have ho1 := (k2.block pb p1 (by simpa using hpc)).trans ho1
  have ho2 := (k2.block gb p2 (by simpa using hgc)).trans ho2
  have K2 := hid k2
  generalize (w1.setCell ⟨cb, 11, none⟩ (.pointer (some ⟨pb, 0, none⟩))).setCell ⟨cb, 12, none⟩ (.string txt) = w2 at *
  have q11 : cv2[11]? = some (.pointer (some ⟨pb, 0, none⟩)) := by rw [hcv2, List.getElem?_set_ne (by omega), List.getElem?_set_self (by omega)]
  have e11 := B2.out.at_ 11 _ q11
  have cG := HQ.out pb w2 (BRS.out w2 ho1 ho2)
  clear d11 d12 f11 f12 k2
  go_wp2_with fail
  refine (groups_v cG).mono ?_
  rintro r w2' ⟨rfl, rfl⟩
  go_wp2_with fail
  refine (newText_v S2.out.cur hG HN.out).mono ?_
  rintro r w3 ⟨v, rfl, own, c3, m3⟩
  have S3 := hid (S2.out.move m3 c3)
  have B3 := hid (B2.out.keep m3.kp (by simpa using hne))
  have hpb : pb ≠ b := by omega
  have hgb : gb ≠ b := by omega
  have z2 := K2.out.size
  have ho1 := (m3.kp.block pb (by omega) (by simpa using hpb)).trans ho1
  have ho2 := (m3.kp.block gb (by omega) (by simpa using hgb)).trans ho2
  have q13 : cv2[13]? = some (.string ⟨#[]⟩) := by rw [hcv2, List.getElem?_set_ne (by omega), List.getElem?_set_ne (by omega)]; exact z13
  have q14 : cv2[14]? = some (.string ⟨#[]⟩) := by rw [hcv2, List.getElem?_set_ne (by omega), List.getElem?_set_ne (by omega)]; exact z14
  have q15 : cv2[15]? = some (.slice none 0 0) := by rw [hcv2, List.getElem?_set_ne (by omega), List.getElem?_set_ne (by omega)]; exact z15
  have hln2 : cv2.length = 23 := by rw [hcv2]; simp [hln]
  have OW := hid own
  obtain ⟨A, hc, rfl⟩ := own_slice own
  clear own e11 cG
  have d13 := B3.out.at_ 13 _ q13
  have d14 := B3.out.at_ 14 _ q14
  have d15 := B3.out.at_ 15 _ q15
  have f13 := B3.out.free 13
  have f14 := B3.out.free 14
  have f15 := B3.out.free 15
  obtain ⟨raw, hraw⟩ : ∃ raw, raw = src.extract e0 (e1 - 1) := ⟨_, rfl⟩
  rw [← hraw]
  have HRAW := hid hraw
  clear hraw
  obtain ⟨cv4, hcv4⟩ : ∃ cv4, cv4 = ((cv2.set 13 (.string raw)).set 14 (.string (ba L))).set 15 (.slice A H.length hc) := ⟨_, rfl⟩
  have B4 : Hid (Bl (((w3.setCell ⟨cb, 13, none⟩ (.string raw)).setCell ⟨cb, 14, none⟩ (.string (ba L))).setCell ⟨cb, 15, none⟩ (.slice A H.length hc)) cb cv4) := hid (by
    rw [hcv4]; exact ((B3.out.set 13 _ (by omega)).set 14 _ (by rw [List.length_set]; omega)).set 15 _ (by rw [List.length_set, List.length_set]; omega))
  have k4 : Kp [cb] w3 (((w3.setCell ⟨cb, 13, none⟩ (.string raw)).setCell ⟨cb, 14, none⟩ (.string (ba L))).setCell ⟨cb, 15, none⟩ (.slice A H.length hc)) := (Kp.setCell _ _ (by simp)).trans ((Kp.setCell _ _ (by simp)).trans (Kp.setCell _ _ (by simp)))
  have S4 := hid (S3.out.other k4 (fun y hy => by simp at hy; rw [hy]; exact HF.out))
  go_upto_region 2 with fail
  have z3 := m3.kp.size
  have ho1 := (k4.block pb (by omega) (by simpa using hpc)).trans ho1
  have ho2 := (k4.block gb (by omega) (by simpa using hgc)).trans ho2
  have OW4 := hid (own_block OW.out (fun g hg => k4.block g (own_lt OW.out hg).2 (by rw [List.mem_singleton]; have := (own_lt OW.out hg).1; omega)))
  have z4 := k4.size
  generalize ((w3.setCell ⟨cb, 13, none⟩ (.string raw)).setCell ⟨cb, 14, none⟩ (.string (ba L))).setCell ⟨cb, 15, none⟩ (.slice A H.length hc) = w4 at *
  clear d13 d14 d15 f13 f14 f15 k4
  have hln4 : cv4.length = 23 := by rw [hcv4]; simp [hln2]
  have HL2 : Cv cv2 := by rw [hcv2]; exact (HL.out.set 11 rfl).set 12 rfl
  have HL4 : Hid (Cv cv4) := hid (by rw [hcv4]; exact ((HL2.set 13 rfl).set 14 rfl).set 15 rfl)
  have g16 : cv4[16]? = some (.bool false) := by rw [hcv4, List.getElem?_set_ne (by omega), List.getElem?_set_ne (by omega), List.getElem?_set_ne (by omega), hcv2, List.getElem?_set_ne (by omega), List.getElem?_set_ne (by omega)]; exact z16
  have g17 : cv4[17]? = some (.int .i64 0) := by rw [hcv4, List.getElem?_set_ne (by omega), List.getElem?_set_ne (by omega), List.getElem?_set_ne (by omega), hcv2, List.getElem?_set_ne (by omega), List.getElem?_set_ne (by omega)]; exact z17
  have g18 : cv4[18]? = some (.bool false) := by rw [hcv4, List.getElem?_set_ne (by omega), List.getElem?_set_ne (by omega), List.getElem?_set_ne (by omega), hcv2, List.getElem?_set_ne (by omega), List.getElem?_set_ne (by omega)]; exact z18
  have e4 : (cv4.set 16 (.bool false)).set 17 (.int .i64 ((0 : Nat) : Int)) = cv4 := by
    apply List.ext_getElem? 
    intro j
    by_cases h17 : j = 17
    · subst h17; rw [List.getElem?_set_self (by rw [List.length_set]; omega), g17]; rfl
    · rw [List.getElem?_set_ne (Ne.symm h17)]
      by_cases h16 : j = 16
      · subst h16; rw [List.getElem?_set_self (by omega), g16]
      · rw [List.getElem?_set_ne (Ne.symm h16)]
  obtain ⟨new, hnew, hfs⟩ : ∃ new : List (Nat × Obj), (∀ f ∈ new, w4.heap[f.1]? = some f.2 ∧ w.heap.size ≤ f.1) ∧ ∀ fs, (∀ f ∈ new, f ∈ fs) → (pb, o1) ∈ fs ∧ (gb, o2) ∈ fs ∧ HolesV fs (.slice A H.length hc) H := by
    rcases OW4.out.2 with ⟨q1, q2⟩ | ⟨hb', cap, cur, q1, q2, q3, q4, q5, q6, q7⟩
    · refine ⟨[(pb, o1), (gb, o2)], fun f hf => ?_, fun fs h => ⟨h _ (by simp), h _ (by simp), A, hc, rfl, .inl (List.eq_nil_of_length_eq_zero q2)⟩⟩
      simp only [List.mem_cons, List.mem_nil_iff, or_false] at hf
      rcases hf with rfl | rfl
      · exact ⟨ho1, lpb⟩
      · exact ⟨ho2, lgb⟩
    · injection q1 with e1 e2 e3
      refine ⟨[(pb, o1), (gb, o2), (hb', .cells cur 152 (0, 0))], fun f hf => ?_, fun fs h => ⟨h _ (by simp), h _ (by simp), A, hc, rfl, .inr ⟨hb', cur, e1, h _ (by simp), q7⟩⟩⟩
      simp only [List.mem_cons, List.mem_nil_iff, or_false] at hf
      rcases hf with rfl | rfl | rfl
      · exact ⟨ho1, lpb⟩
      · exact ⟨ho2, lgb⟩
      · exact ⟨q3, by have := m1.kp.size; show w.heap.size ≤ hb'; omega⟩
  have S5 := S4.out.addFacts new (fun f hf => ⟨(hnew f hf).1, (HS.out.far_new (hnew f hf).2).lo, (HS.out.far_new (hnew f hf).2).bk⟩)
  have F5 : Sr.Far w0 b { σ with fs := new ++ σ.fs } cb := ⟨HF.out.lo, HF.out.bk, fun f hf => by
    rcases List.mem_append.1 hf with q | q
    · have := (hnew f q).2; omega
    · exact HF.out.fx f q⟩
  have HNEW := hid hfs
  clear hfs hnew
  go_wp2_with fail
  refine (flags_v (cv := cv4) S5 (by rw [e4]; exact B4.out) HL4.out F5 g18 HFL.out).mono ?_
  rintro r w5 ⟨rfl, s5, b5⟩
  go_wp2_with fail
  go_end0
  obtain ⟨i1, i2, i3⟩ := HNEW.out (new ++ σ.fs) (fun f hf => List.mem_append_left _ hf)
  refine ⟨_, _, rfl, s5, b5, (HL4.out.set 16 rfl).set 17 rfl, F5, pb, gb, o1, o2, _, new ++ σ.fs, fun f hf => List.mem_append_right _ hf, rfl, i1, i2, BRS.out, i3, ?_⟩
  rw [hcv4, hcv2, HRAW.out]
end Go.Proofs.YtonnimbcekhbgaaGreatDoor
