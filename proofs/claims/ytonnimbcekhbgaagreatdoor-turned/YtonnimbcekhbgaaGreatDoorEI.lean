/- The script's reader: a command's byte and its operand. -/
import Derived.Test.YtonnimbcekhbgaaGreatDoorEH
import Derived.Deep.Cut
import Derived.Deep.CutRange
namespace Go.Proofs.YtonnimbcekhbgaaGreatDoor
open Go.RowKit

theorem run_lookB {P : Program} {w : World} {t k e : TypeId} {b c i : Nat} {es : Array MapEntry} {x : Int} {v : Value} (ht : P.underlying t = some (.map k e)) (hk : P.underlying k = some (.int .u8)) (hb : w.heap[b]? = some (.map es c)) (hf : Instr.findNow (.int .u8) (.int .u8 x) es.toList 0 = some (some (i, v))) :
    (Instr.lookup t (.map (some b)) (.int .u8 x) true).run P w = .ok (.tuple #[v, .bool true]) w := by
  have hkey : MapKept.IsKey (.int .u8) (.int .u8 x) := by simp [MapKept.IsKey]
  simp [Instr.lookup, run_underlying ht, MapKept.run_getObj_map hb, MapKept.run_checkKey hk hkey, MapKept.run_findKey hk hf, Result.andThen]

/-- It is entered, where it is called. -/
def Enters (f : Nat) : Prop := ∀ p q w, (callFunc f #[p, q]).run Tryz.prog w = .ok (.enter f #[p, q]) w

/-- A command's cells. -/
structure Cv (cv : List Value) : Prop where
  len : cv.length = 23
  one : ∀ u ∈ cv, u.oneCell' = true
theorem Cv.set {cv : List Value} (h : Cv cv) (j : Nat) {v : Value} (hv : v.oneCell' = true) : Cv (cv.set j v) :=
  ⟨by simpa using h.len, fun u hu => by
    rcases List.mem_or_eq_of_mem_set hu with q | q
    · exact h.one u q
    · rw [q]; exact hv⟩

/-- What a function reads of a command's operand. -/
def OpOk (w0 : World) (f b : Nat) (src : ByteArray) (k e : Nat) (R : Sst → List Value → Sst → List Value → Prop) : Prop :=
  ∀ w σ cb cv, Sr w0 w b src k σ → Bl w cb cv → Cv cv → Sr.Far w0 b σ cb → Small σ 2000 →
    Calls Tryz.prog f #[.pointer (some ⟨b, 0, none⟩), .pointer (some ⟨cb, 0, none⟩)] w fun r w' => ∃ σ' cv', r = .returned (.tuple #[]) ∧ Sr w0 w' b src e σ' ∧ Bl w' cb cv' ∧ Cv cv' ∧ Sr.Far w0 b σ' cb ∧ R σ cv σ' cv'

theorem op_nothing (w0 : World) (b : Nat) (src : ByteArray) (k : Nat) : OpOk w0 76 b src k k (fun σ cv σ' cv' => σ' = σ ∧ cv' = cv) := by
  intro w σ cb cv hs hb hl hf _
  go_enter Tryz.func76, Tryz.ntmps76
  go_wp2
  go_end0
  exact ⟨σ, cv, rfl, hs, hb, hl, hf, rfl, rfl⟩

set_option maxHeartbeats 1000000 in
theorem op_status (w0 : World) {b : Nat} {src : ByteArray} {k n x e : Nat} (h : numN src 0 255 (blk src k) n 0 (blk src k) = some (x, e)) : OpOk w0 74 b src k e (fun σ cv σ' cv' => σ' = σ ∧ cv' = cv.set 8 (.int .i64 x)) := by
  intro w σ cb cv hs hb hl hf _
  have H := hid h
  clear h
  have hlt := hs.cur.lt
  have hne : cb ≠ b := fun e => hf.bk 0 (by rw [e]; rfl)
  go_enter Tryz.func74, Tryz.ntmps74
  go_wp2_with fail
  refine (blanks_v hs.cur).mono ?_
  rintro r w1 ⟨rfl, h1, m1⟩
  go_wp2_with fail
  refine (number_v (lo := 0) (hi := 255) h1 (by omega) H.out).mono ?_
  rintro r w2 ⟨rfl, h2, m2⟩
  have m12 := m1.trans m2
  have b2 := hb.keep m12.kp (by simpa using hne)
  have f8 := b2.free 8
  have hx8 : 8 < cv.length := by rw [hl.len]; omega
  have c8 := b2.at_ 8 _ (List.getElem?_eq_getElem hx8)
  go_wp2_with fail
  go_end0
  have k3 : Kp [cb] w2 (w2.setCell ⟨cb, 8, none⟩ (.int .i64 x)) := Kp.setCell _ _ (by simp)
  exact ⟨σ, _, rfl, (hs.move m12 h2).other k3 (fun y hy => by simp at hy; rw [hy]; exact hf), b2.set 8 _ hx8, hl.set 8 rfl, hf, rfl, rfl⟩

set_option maxRecDepth 100000 in
set_option maxHeartbeats 4000000 in
theorem what_v {w0 w : World} {b cb : Nat} {src : ByteArray} {k e f i x n c : Nat} {A : Option Addr} {nt : Bool} {σ : Sst} {cv : List Value} {R : Sst → List Value → Sst → List Value → Prop} (hs : Sr w0 w b src k σ) (hb : Bl w cb cv) (hl : Cv cv) (hf : Sr.Far w0 b σ cb) (hsl : Small σ 2000)
    (hk : k < src.size) (hx : (src[k]).toNat = x) (ht : Instr.findNow (.int .u8) (.int .u8 x) (tabE 0 opsL) 0 = some (some (i, .func (.func f) #[] #[]))) (h0 : cv[0]? = some (.slice A n c)) (h2 : cv[2]? = some (.bool nt))
    (hbare : (x = 125 ∨ x = 58) → n = 0 ∧ nt = false) (ho : OpOk w0 f b src (k + 1) e R) (hce : Enters f) :
    Calls Tryz.prog 119 #[.pointer (some ⟨b, 0, none⟩), .pointer (some ⟨cb, 0, none⟩)] w fun r w' => ∃ σ' cv', r = .returned (.tuple #[]) ∧ Sr w0 w' b src e σ' ∧ Bl w' cb cv' ∧ Cv cv' ∧ Sr.Far w0 b σ' cb ∧ R σ (cv.set 3 (.int .u8 x)) σ' cv' := by
  have hlt := hs.cur.lt
  have hne : cb ≠ b := fun e => hf.bk 0 (by rw [e]; rfl)
  have he : ((k : Int) == (src.size : Int)) = false := by simp; omega
  have c5 : (⟨src.data⟩ : ByteArray)[k].toNat = x := hx
  have HT := hid ht
  have HO := hid ho
  have HB := hid hbare
  clear ht ho hbare hx
  go_enter Tryz.func119, Tryz.ntmps119
  go_wp2_with fail
  refine (ended_v hs.cur he).mono ?_
  rintro r w1 ⟨rfl, h1, m1⟩
  have s1 := hs.move m1 h1
  have b1 := hb.keep m1.kp (by simpa using hne)
  have d0 := h1.c0
  have d1 := h1.c1
  have f3 := b1.free 3
  have g3 := b1.at_ 3 _ (List.getElem?_eq_getElem (show 3 < cv.length by rw [hl.len]; omega))
  go_upto_region 2 with fail
  go_cut [4] from 15 (fun _ wx => wx = w1.drew.setCell ⟨cb, 3, none⟩ (.int .u8 x))
  case first =>
    go_region
    all_goals
      go_wp2_with fail
      go_meet
      case rel => rfl
  case rest =>
  subst hcut
  obtain ⟨w2, hw2⟩ : ∃ w2, w2 = w1.drew.setCell ⟨cb, 3, none⟩ (.int .u8 x) := ⟨_, rfl⟩
  rw [← hw2]
  have k2 : Kp [cb] w1 w2 := by rw [hw2]; exact (Kp.drew _ _).trans (Kp.setCell _ _ (by simp))
  have s2 : Sr w0 w2 b src k σ := s1.other k2 (fun y hy => by simp at hy; rw [hy]; exact hf)
  have b2 : Bl w2 cb (cv.set 3 (.int .u8 x)) := by rw [hw2]; exact (b1.keep (Kp.drew [] _) (by simp)).set 3 _ (by rw [hl.len]; omega)
  have l2 : Cv (cv.set 3 (.int .u8 x)) := hl.set 3 rfl
  obtain ⟨cv2, hcv2⟩ : ∃ cv2, cv2 = cv.set 3 (Value.int .u8 x) := ⟨_, rfl⟩
  have q0 : cv2[0]? = some (.slice A n c) := by rw [hcv2, List.getElem?_set_ne (by omega)]; exact h0
  have q2 : cv2[2]? = some (.bool nt) := by rw [hcv2, List.getElem?_set_ne (by omega)]; exact h2
  have q3 : cv2[3]? = some (.int .u8 x) := by rw [hcv2, List.getElem?_set_self (by rw [hl.len]; omega)]
  rw [← hcv2] at b2 l2
  have HCV := hid hcv2
  clear hcv2 hw2 k2 s1 b1 hb hs m1 h1 d0 d1 f3 g3 h0 h2 hl
  have e0 := b2.at_ 0 _ q0
  have e2 := b2.at_ 2 _ q2
  have e3 := b2.at_ 3 _ q3
  have c7 := s2.c.c7
  have hlk : ∀ m, (Instr.lookup 78 (.map (some σ.ob)) (.int .u8 x) true).run Tryz.prog (w2.drewN m) = .ok (.tuple #[.func (.func f) #[] #[], .bool true]) (w2.drewN m) := fun m =>
    run_lookB Tryz.underlying78 Tryz.underlying5 (((Kp.drewN [] w2 m).block _ (s2.r.bk.hi 1 _ rfl) (by simp)).trans s2.r.m7) HT.out
  go_wp2_with fail
  go_quiet (fail)
  have s3 := s2.keep (Kp.drewN [] w2 nq)
  have b3 := b2.keep (Kp.drewN [] w2 nq) (by simp)
  have c1 := s2.cur.c1
  have f1 := s2.cur.free 1
  have hsm := s2.cur.small
  unfold Enters at hce
  have s4 : Sr w0 ((w2.drewN nq).setCell ⟨b, 1, none⟩ (.int .i64 ((k : Int) + 1))) b src (k + 1) σ := s3.move (Mv.step _ _ _) (s3.cur.step hk)
  have b4 : Bl ((w2.drewN nq).setCell ⟨b, 1, none⟩ (.int .i64 ((k : Int) + 1))) cb cv2 := b3.keep (Kp.setCell (S := [b]) _ _ (by simp)) (by simpa using hne)
  have S4 := hid s4
  have B4 := hid b4
  clear s3 b3 s4 b4
  by_cases hx : x = 125 ∨ x = 58
  · obtain ⟨rfl, rfl⟩ := HB.out hx
    rcases hx with hx | hx
    · have g1 : ((x : Int) == 125) = true := by rw [hx]; rfl
      go_wp2_with fail
      refine (HO.out _ σ cb cv2 S4.out B4.out l2 hf hsl).mono ?_
      rintro r w5 ⟨σ', cv', rfl, r1, r2, r3, r4, r5⟩
      go_wp2_with fail
      go_end0
      exact ⟨σ', cv', rfl, r1, r2, r3, r4, HCV.out ▸ r5⟩
    · have g1 : ((x : Int) == 125) = false := by rw [hx]; rfl
      have g2 : ((x : Int) == 58) = true := by rw [hx]; rfl
      go_wp2_with fail
      refine (HO.out _ σ cb cv2 S4.out B4.out l2 hf hsl).mono ?_
      rintro r w5 ⟨σ', cv', rfl, r1, r2, r3, r4, r5⟩
      go_wp2_with fail
      go_end0
      exact ⟨σ', cv', rfl, r1, r2, r3, r4, HCV.out ▸ r5⟩
  · have g1 : ((x : Int) == 125) = false := by rw [beq_eq_false_iff_ne]; omega
    have g2 : ((x : Int) == 58) = false := by rw [beq_eq_false_iff_ne]; omega
    go_wp2_with fail
    refine (HO.out _ σ cb cv2 S4.out B4.out l2 hf hsl).mono ?_
    rintro r w5 ⟨σ', cv', rfl, r1, r2, r3, r4, r5⟩
    go_wp2_with fail
    go_end0
    exact ⟨σ', cv', rfl, r1, r2, r3, r4, HCV.out ▸ r5⟩
end Go.Proofs.YtonnimbcekhbgaaGreatDoor
