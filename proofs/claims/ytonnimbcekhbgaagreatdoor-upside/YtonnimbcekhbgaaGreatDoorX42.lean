/- What the claim needs of: KR. -/
import Derived.Test.YtonnimbcekhbgaaGreatDoorX41
import Derived.Test.YtonnimbcekhbgaaGreatDoorX05

/- KR. -/
namespace Go.Proofs.YtonnimbcekhbgaaGreatDoor
open Go.RowKit

/-- The flags: g, a number; up to where they go. -/
def flN (s : ByteArray) : Nat → Nat → Bool → Nat → Option (Bool × Nat × Nat)
  | 0, _, _, _ => none
  | n + 1, k, g, m => if saw s k 112 || saw s k 119 then none
    else if !g && saw s k 103 then flN s n (k + 1) true m
    else if (m == 0) && isD s k then (match numN s 1 1000000 k 20 0 k with | some (x, e) => flN s n e g x | none => none)
    else some (g, m, k)
theorem numN_lt {s : ByteArray} {lo hi f : Nat} : ∀ {n v k x e : Nat}, numN s lo hi f n v k = some (x, e) → k ≤ e ∧ (isD s k = true → k < e) ∧ x ≤ max v hi
  | 0, _, _, _, _, h => by cases h
  | n + 1, v, k, x, e, h => by
    unfold numN at h
    split at h
    · rename_i hd
      split at h
      · cases h
      · rename_i hq
        have := numN_lt h
        exact ⟨by omega, fun _ => by omega, by omega⟩
    · rename_i hd
      injection h with h
      injection h with h1 h2
      subst h1 h2
      exact ⟨Nat.le_refl _, fun q => absurd q hd, by omega⟩

section
variable {w0 w w' : World} {b k cb : Nat} {src : ByteArray} {σ : Sst} {cv : List Value}
theorem sets_len (cv : List Value) (x y : Value) : ((cv.set 16 x).set 17 y).length = cv.length := by simp
theorem set16 (hl : Cv cv) (x y : Value) : ((cv.set 16 x).set 17 y)[16]? = some x := by rw [List.getElem?_set_ne (by omega), List.getElem?_set_self (by rw [hl.len]; omega)]
theorem set17 (hl : Cv cv) (x y : Value) : ((cv.set 16 x).set 17 y)[17]? = some y := by rw [List.getElem?_set_self (by rw [List.length_set, hl.len]; omega)]
theorem set18 (_ : Cv cv) (x y : Value) : ((cv.set 16 x).set 17 y)[18]? = cv[18]? := by rw [List.getElem?_set_ne (by omega), List.getElem?_set_ne (by omega)]

set_option maxRecDepth 100000 in
set_option maxHeartbeats 8000000 in
theorem flags_v {n e m' : Nat} {g' : Bool} (hs : Sr w0 w b src k σ) (hb : Bl w cb ((cv.set 16 (.bool false)).set 17 (.int .i64 ((0 : Nat) : Int)))) (hl : Cv cv) (hf : Sr.Far w0 b σ cb) (h18 : cv[18]? = some (.bool false)) (h : flN src n k false 0 = some (g', m', e)) :
    Calls Tryz.prog 109 #[.pointer (some ⟨b, 0, none⟩), .pointer (some ⟨cb, 0, none⟩)] w fun r w' => r = .returned (.tuple #[]) ∧ Sr w0 w' b src e σ ∧ Bl w' cb ((cv.set 16 (.bool g')).set 17 (.int .i64 (m' : Nat))) := by
  have hsm := hs.cur.small
  have hne : cb ≠ b := fun e => hf.bk 0 (by rw [e]; rfl)
  have HF := hid hf
  have H := hid h
  have HL := hid hl
  have H18 := hid h18
  have HS := hid hs
  have HB := hid hb
  clear h hl h18 hf hs hb
  go_enter Tryz.func109, Tryz.ntmps109
  go_wp2_with fail
  go_loopw [4] (fun _ wr => ∃ (a j : Nat) (g : Bool) (m : Nat), a ≤ src.size ∧ m ≤ 1000000 ∧ Hid (Sr w0 wr b src a σ) ∧ Hid (Bl wr cb ((cv.set 16 (.bool g)).set 17 (.int .i64 (m : Nat)))) ∧ Hid (flN src j a g m = some (g', m', e))) (fun _ wr => 3000 - curAt wr b)
  case atStart => exact ⟨k, n, false, 0, HS.out.cur.le, by omega, HS, HB, H⟩
  case round =>
    clear HS HB H
    obtain ⟨a, j, g, m, hal, hm, HS, HB, HN⟩ := hrel
    have HAT := hid (curAt_of HS.out.cur)
    match j, HN with
    | 0, HN => cases HN.out
    | j + 1, HN =>
    have hN := HN.out
    unfold flN at hN
    clear HN
    cases h112 : saw src a 112
    case true => rw [h112] at hN; cases hN
    cases h119 : saw src a 119
    case true => rw [h112, h119] at hN; cases hN
    rw [h112, h119, if_neg (by simp)] at hN
    have H112 := hid h112
    have H119 := hid h119
    clear h112 h119
    have hsm0 := HS.out.cur.small
    cases g
    case false =>
      cases h103 : saw src a 103
      case true =>
        rw [h103, if_pos (by simp)] at hN
        have HN := hid hN
        have H103 := hid h103
        clear hN h103
        have S0 := HS
        have B0 := HB
        clear HS HB
        have q16 := B0.out.at_ 16 _ (set16 HL.out _ _)
        have q17 := B0.out.at_ 17 _ (set17 HL.out _ _)
        have q18 := B0.out.at_ 18 _ ((set18 HL.out _ _).trans H18.out)
        have f16 := B0.out.free 16
        have f17 := B0.out.free 17
        go_wp2_with fail
        refine (take_v 103 S0.out.cur H103.out).mono ?_
        rintro r w1 ⟨rfl, h, m1⟩
        have S1 : Hid (Sr w0 w1 b src (a + 1) σ) := hid (S0.out.move m1 h)
        have B1 := hid (B0.out.keep m1.kp (by simpa using hne))
        clear q16 q17 q18 f16 f17 h m1 S0 B0
        have q16 := B1.out.at_ 16 _ (set16 HL.out _ _)
        have q17 := B1.out.at_ 17 _ (set17 HL.out _ _)
        have q18 := B1.out.at_ 18 _ ((set18 HL.out _ _).trans H18.out)
        have f16 := B1.out.free 16
        have f17 := B1.out.free 17
        go_wp2_with fail
        have k9 : Kp [cb] w1 (w1.setCell ⟨cb, 16, none⟩ (.bool true)) := Kp.setCell _ _ (by simp)
        have S9 := hid (S1.out.other k9 (fun y hy => by simp at hy; rw [hy]; exact HF.out))
        have B9 : Hid (Bl (w1.setCell ⟨cb, 16, none⟩ (.bool true)) cb ((cv.set 16 (.bool true)).set 17 (.int .i64 (m : Nat)))) := hid (by
          have := B1.out.set 16 (.bool true) (by rw [sets_len, HL.out.len]; omega)
          rwa [List.set_comm _ _ (show (17 : Nat) ≠ 16 by omega), List.set_set] at this)
        have HCA := hid (curAt_of S9.out.cur)
        go_round
        case rel => exact ⟨a + 1, j, true, m, S9.out.cur.le, hm, S9, B9, HN⟩
        case measure => rw [HCA.out, HAT.out]; have := S9.out.cur.le; omega
      case false =>
      rw [h103, if_neg (by simp)] at hN
      have H103 := hid h103
      clear h103
      by_cases hm0 : m = 0
      · subst hm0
        cases hd : isD src a
        case true =>
          rw [hd, if_pos (by simp)] at hN
          have HDG := hid hd
          clear hd
          cases hnum : numN src 1 1000000 a 20 0 a with
          | none => rw [hnum] at hN; cases hN
          | some xe =>
          obtain ⟨x, e1⟩ := xe
          rw [hnum] at hN
          have HN : Hid (flN src j e1 false x = some (g', m', e)) := hid hN
          have HNUM := hid hnum
          clear hN hnum
          have S0 := HS
          have B0 := HB
          clear HS HB
          have q16 := B0.out.at_ 16 _ (set16 HL.out _ _)
          have q17 := B0.out.at_ 17 _ (set17 HL.out _ _)
          have q18 := B0.out.at_ 18 _ ((set18 HL.out _ _).trans H18.out)
          have f16 := B0.out.free 16
          have f17 := B0.out.free 17
          go_wp2_with fail
          refine (take_v 103 S0.out.cur H103.out).mono ?_
          rintro r w1 ⟨rfl, h, m1⟩
          have S1 : Hid (Sr w0 w1 b src a σ) := hid (S0.out.move m1 h)
          have B1 := hid (B0.out.keep m1.kp (by simpa using hne))
          clear q16 q17 q18 f16 f17 h m1 S0 B0
          have q16 := B1.out.at_ 16 _ (set16 HL.out _ _)
          have q17 := B1.out.at_ 17 _ (set17 HL.out _ _)
          have q18 := B1.out.at_ 18 _ ((set18 HL.out _ _).trans H18.out)
          have f16 := B1.out.free 16
          have f17 := B1.out.free 17
          go_wp2_with fail
          refine (take_v 112 S1.out.cur H112.out).mono ?_
          rintro r w2 ⟨rfl, h, m1⟩
          have S2 : Hid (Sr w0 w2 b src a σ) := hid (S1.out.move m1 h)
          have B2 := hid (B1.out.keep m1.kp (by simpa using hne))
          clear q16 q17 q18 f16 f17 h m1 S1 B1
          have q16 := B2.out.at_ 16 _ (set16 HL.out _ _)
          have q17 := B2.out.at_ 17 _ (set17 HL.out _ _)
          have q18 := B2.out.at_ 18 _ ((set18 HL.out _ _).trans H18.out)
          have f16 := B2.out.free 16
          have f17 := B2.out.free 17
          go_wp2_with fail
          refine (digit_c S2.out.cur HDG.out).mono ?_
          rintro r w3 ⟨rfl, h, m1⟩
          have S3 : Hid (Sr w0 w3 b src a σ) := hid (S2.out.move m1 h)
          have B3 := hid (B2.out.keep m1.kp (by simpa using hne))
          clear q16 q17 q18 f16 f17 h m1 S2 B2
          have q16 := B3.out.at_ 16 _ (set16 HL.out _ _)
          have q17 := B3.out.at_ 17 _ (set17 HL.out _ _)
          have q18 := B3.out.at_ 18 _ ((set18 HL.out _ _).trans H18.out)
          have f16 := B3.out.free 16
          have f17 := B3.out.free 17
          go_wp2_with fail
          refine (number_v (lo := 1) (hi := 1000000) S3.out.cur (by omega) HNUM.out).mono ?_
          rintro r w4 ⟨rfl, h, m1⟩
          have S4 : Hid (Sr w0 w4 b src e1 σ) := hid (S3.out.move m1 h)
          have B4 := hid (B3.out.keep m1.kp (by simpa using hne))
          clear q16 q17 q18 f16 f17 h m1 S3 B3
          have q16 := B4.out.at_ 16 _ (set16 HL.out _ _)
          have q17 := B4.out.at_ 17 _ (set17 HL.out _ _)
          have q18 := B4.out.at_ 18 _ ((set18 HL.out _ _).trans H18.out)
          have f16 := B4.out.free 16
          have f17 := B4.out.free 17
          go_wp2_with fail
          have k9 : Kp [cb] w4 (w4.setCell ⟨cb, 17, none⟩ (.int .i64 (x : Nat))) := Kp.setCell _ _ (by simp)
          have S9 := hid (S4.out.other k9 (fun y hy => by simp at hy; rw [hy]; exact HF.out))
          have B9 : Hid (Bl (w4.setCell ⟨cb, 17, none⟩ (.int .i64 (x : Nat))) cb ((cv.set 16 (.bool false)).set 17 (.int .i64 (x : Nat)))) := hid (by
            have := B4.out.set 17 (.int .i64 (x : Nat)) (by rw [sets_len, HL.out.len]; omega)
            rwa [List.set_set] at this)
          have HCA := hid (curAt_of S9.out.cur)
          have hxe := numN_lt HNUM.out
          go_round
          case rel => exact ⟨e1, j, false, x, S9.out.cur.le, by omega, S9, B9, HN⟩
          case measure => rw [HCA.out, HAT.out]; have := S9.out.cur.le; have := hxe.2.1 HDG.out; omega
        case false =>
          rw [hd, if_neg (by simp)] at hN
          have HDG := hid hd
          injection hN with hN
          injection hN with n1 n2
          injection n2 with n2 n3
          subst n1 n2 n3
          clear hd
          have S0 := HS
          have B0 := HB
          clear HS HB
          have q16 := B0.out.at_ 16 _ (set16 HL.out _ _)
          have q17 := B0.out.at_ 17 _ (set17 HL.out _ _)
          have q18 := B0.out.at_ 18 _ ((set18 HL.out _ _).trans H18.out)
          have f16 := B0.out.free 16
          have f17 := B0.out.free 17
          go_wp2_with fail
          refine (take_v 103 S0.out.cur H103.out).mono ?_
          rintro r w1 ⟨rfl, h, m1⟩
          have S1 : Hid (Sr w0 w1 b src a σ) := hid (S0.out.move m1 h)
          have B1 := hid (B0.out.keep m1.kp (by simpa using hne))
          clear q16 q17 q18 f16 f17 h m1 S0 B0
          have q16 := B1.out.at_ 16 _ (set16 HL.out _ _)
          have q17 := B1.out.at_ 17 _ (set17 HL.out _ _)
          have q18 := B1.out.at_ 18 _ ((set18 HL.out _ _).trans H18.out)
          have f16 := B1.out.free 16
          have f17 := B1.out.free 17
          go_wp2_with fail
          refine (take_v 112 S1.out.cur H112.out).mono ?_
          rintro r w2 ⟨rfl, h, m1⟩
          have S2 : Hid (Sr w0 w2 b src a σ) := hid (S1.out.move m1 h)
          have B2 := hid (B1.out.keep m1.kp (by simpa using hne))
          clear q16 q17 q18 f16 f17 h m1 S1 B1
          have q16 := B2.out.at_ 16 _ (set16 HL.out _ _)
          have q17 := B2.out.at_ 17 _ (set17 HL.out _ _)
          have q18 := B2.out.at_ 18 _ ((set18 HL.out _ _).trans H18.out)
          have f16 := B2.out.free 16
          have f17 := B2.out.free 17
          go_wp2_with fail
          refine (digit_c S2.out.cur HDG.out).mono ?_
          rintro r w3 ⟨rfl, h, m1⟩
          have S3 : Hid (Sr w0 w3 b src a σ) := hid (S2.out.move m1 h)
          have B3 := hid (B2.out.keep m1.kp (by simpa using hne))
          clear q16 q17 q18 f16 f17 h m1 S2 B2
          have q16 := B3.out.at_ 16 _ (set16 HL.out _ _)
          have q17 := B3.out.at_ 17 _ (set17 HL.out _ _)
          have q18 := B3.out.at_ 18 _ ((set18 HL.out _ _).trans H18.out)
          have f16 := B3.out.free 16
          have f17 := B3.out.free 17
          go_wp2_with fail
          refine (take_v 119 S3.out.cur H119.out).mono ?_
          rintro r w4 ⟨rfl, h, m1⟩
          have S4 : Hid (Sr w0 w4 b src a σ) := hid (S3.out.move m1 h)
          have B4 := hid (B3.out.keep m1.kp (by simpa using hne))
          clear q16 q17 q18 f16 f17 h m1 S3 B3
          have q16 := B4.out.at_ 16 _ (set16 HL.out _ _)
          have q17 := B4.out.at_ 17 _ (set17 HL.out _ _)
          have q18 := B4.out.at_ 18 _ ((set18 HL.out _ _).trans H18.out)
          have f16 := B4.out.free 16
          have f17 := B4.out.free 17
          go_wp2_with fail
          refine bodyPost_ret (results_none rfl _ _ _) rfl ⟨rfl, ?_, ?_⟩
          · exact S4.out
          · exact B4.out
      · rw [if_neg (by simp [hm0])] at hN
        injection hN with hN
        injection hN with n1 n2
        injection n2 with n2 n3
        subst n1 n2 n3
        have hmi : ((m : Int) == 0) = false := by rw [beq_eq_false_iff_ne]; omega
        have S0 := HS
        have B0 := HB
        clear HS HB
        have q16 := B0.out.at_ 16 _ (set16 HL.out _ _)
        have q17 := B0.out.at_ 17 _ (set17 HL.out _ _)
        have q18 := B0.out.at_ 18 _ ((set18 HL.out _ _).trans H18.out)
        have f16 := B0.out.free 16
        have f17 := B0.out.free 17
        go_wp2_with fail
        refine (take_v 103 S0.out.cur H103.out).mono ?_
        rintro r w1 ⟨rfl, h, m1⟩
        have S1 : Hid (Sr w0 w1 b src a σ) := hid (S0.out.move m1 h)
        have B1 := hid (B0.out.keep m1.kp (by simpa using hne))
        clear q16 q17 q18 f16 f17 h m1 S0 B0
        have q16 := B1.out.at_ 16 _ (set16 HL.out _ _)
        have q17 := B1.out.at_ 17 _ (set17 HL.out _ _)
        have q18 := B1.out.at_ 18 _ ((set18 HL.out _ _).trans H18.out)
        have f16 := B1.out.free 16
        have f17 := B1.out.free 17
        go_wp2_with fail
        refine (take_v 112 S1.out.cur H112.out).mono ?_
        rintro r w2 ⟨rfl, h, m1⟩
        have S2 : Hid (Sr w0 w2 b src a σ) := hid (S1.out.move m1 h)
        have B2 := hid (B1.out.keep m1.kp (by simpa using hne))
        clear q16 q17 q18 f16 f17 h m1 S1 B1
        have q16 := B2.out.at_ 16 _ (set16 HL.out _ _)
        have q17 := B2.out.at_ 17 _ (set17 HL.out _ _)
        have q18 := B2.out.at_ 18 _ ((set18 HL.out _ _).trans H18.out)
        have f16 := B2.out.free 16
        have f17 := B2.out.free 17
        go_wp2_with fail
        refine (take_v 119 S2.out.cur H119.out).mono ?_
        rintro r w3 ⟨rfl, h, m1⟩
        have S3 : Hid (Sr w0 w3 b src a σ) := hid (S2.out.move m1 h)
        have B3 := hid (B2.out.keep m1.kp (by simpa using hne))
        clear q16 q17 q18 f16 f17 h m1 S2 B2
        have q16 := B3.out.at_ 16 _ (set16 HL.out _ _)
        have q17 := B3.out.at_ 17 _ (set17 HL.out _ _)
        have q18 := B3.out.at_ 18 _ ((set18 HL.out _ _).trans H18.out)
        have f16 := B3.out.free 16
        have f17 := B3.out.free 17
        go_wp2_with fail
        refine bodyPost_ret (results_none rfl _ _ _) rfl ⟨rfl, ?_, ?_⟩
        · exact S3.out
        · exact B3.out
    case true =>
      rw [if_neg (by simp)] at hN
      by_cases hm0 : m = 0
      · subst hm0
        cases hd : isD src a
        case true =>
          rw [hd, if_pos (by simp)] at hN
          have HDG := hid hd
          clear hd
          cases hnum : numN src 1 1000000 a 20 0 a with
          | none => rw [hnum] at hN; cases hN
          | some xe =>
          obtain ⟨x, e1⟩ := xe
          rw [hnum] at hN
          have HN : Hid (flN src j e1 true x = some (g', m', e)) := hid hN
          have HNUM := hid hnum
          clear hN hnum
          have S0 := HS
          have B0 := HB
          clear HS HB
          have q16 := B0.out.at_ 16 _ (set16 HL.out _ _)
          have q17 := B0.out.at_ 17 _ (set17 HL.out _ _)
          have q18 := B0.out.at_ 18 _ ((set18 HL.out _ _).trans H18.out)
          have f16 := B0.out.free 16
          have f17 := B0.out.free 17
          go_wp2_with fail
          refine (take_v 112 S0.out.cur H112.out).mono ?_
          rintro r w1 ⟨rfl, h, m1⟩
          have S1 : Hid (Sr w0 w1 b src a σ) := hid (S0.out.move m1 h)
          have B1 := hid (B0.out.keep m1.kp (by simpa using hne))
          clear q16 q17 q18 f16 f17 h m1 S0 B0
          have q16 := B1.out.at_ 16 _ (set16 HL.out _ _)
          have q17 := B1.out.at_ 17 _ (set17 HL.out _ _)
          have q18 := B1.out.at_ 18 _ ((set18 HL.out _ _).trans H18.out)
          have f16 := B1.out.free 16
          have f17 := B1.out.free 17
          go_wp2_with fail
          refine (digit_c S1.out.cur HDG.out).mono ?_
          rintro r w2 ⟨rfl, h, m1⟩
          have S2 : Hid (Sr w0 w2 b src a σ) := hid (S1.out.move m1 h)
          have B2 := hid (B1.out.keep m1.kp (by simpa using hne))
          clear q16 q17 q18 f16 f17 h m1 S1 B1
          have q16 := B2.out.at_ 16 _ (set16 HL.out _ _)
          have q17 := B2.out.at_ 17 _ (set17 HL.out _ _)
          have q18 := B2.out.at_ 18 _ ((set18 HL.out _ _).trans H18.out)
          have f16 := B2.out.free 16
          have f17 := B2.out.free 17
          go_wp2_with fail
          refine (number_v (lo := 1) (hi := 1000000) S2.out.cur (by omega) HNUM.out).mono ?_
          rintro r w3 ⟨rfl, h, m1⟩
          have S3 : Hid (Sr w0 w3 b src e1 σ) := hid (S2.out.move m1 h)
          have B3 := hid (B2.out.keep m1.kp (by simpa using hne))
          clear q16 q17 q18 f16 f17 h m1 S2 B2
          have q16 := B3.out.at_ 16 _ (set16 HL.out _ _)
          have q17 := B3.out.at_ 17 _ (set17 HL.out _ _)
          have q18 := B3.out.at_ 18 _ ((set18 HL.out _ _).trans H18.out)
          have f16 := B3.out.free 16
          have f17 := B3.out.free 17
          go_wp2_with fail
          have k9 : Kp [cb] w3 (w3.setCell ⟨cb, 17, none⟩ (.int .i64 (x : Nat))) := Kp.setCell _ _ (by simp)
          have S9 := hid (S3.out.other k9 (fun y hy => by simp at hy; rw [hy]; exact HF.out))
          have B9 : Hid (Bl (w3.setCell ⟨cb, 17, none⟩ (.int .i64 (x : Nat))) cb ((cv.set 16 (.bool true)).set 17 (.int .i64 (x : Nat)))) := hid (by
            have := B3.out.set 17 (.int .i64 (x : Nat)) (by rw [sets_len, HL.out.len]; omega)
            rwa [List.set_set] at this)
          have HCA := hid (curAt_of S9.out.cur)
          have hxe := numN_lt HNUM.out
          go_round
          case rel => exact ⟨e1, j, true, x, S9.out.cur.le, by omega, S9, B9, HN⟩
          case measure => rw [HCA.out, HAT.out]; have := S9.out.cur.le; have := hxe.2.1 HDG.out; omega
        case false =>
          rw [hd, if_neg (by simp)] at hN
          have HDG := hid hd
          injection hN with hN
          injection hN with n1 n2
          injection n2 with n2 n3
          subst n1 n2 n3
          clear hd
          have S0 := HS
          have B0 := HB
          clear HS HB
          have q16 := B0.out.at_ 16 _ (set16 HL.out _ _)
          have q17 := B0.out.at_ 17 _ (set17 HL.out _ _)
          have q18 := B0.out.at_ 18 _ ((set18 HL.out _ _).trans H18.out)
          have f16 := B0.out.free 16
          have f17 := B0.out.free 17
          go_wp2_with fail
          refine (take_v 112 S0.out.cur H112.out).mono ?_
          rintro r w1 ⟨rfl, h, m1⟩
          have S1 : Hid (Sr w0 w1 b src a σ) := hid (S0.out.move m1 h)
          have B1 := hid (B0.out.keep m1.kp (by simpa using hne))
          clear q16 q17 q18 f16 f17 h m1 S0 B0
          have q16 := B1.out.at_ 16 _ (set16 HL.out _ _)
          have q17 := B1.out.at_ 17 _ (set17 HL.out _ _)
          have q18 := B1.out.at_ 18 _ ((set18 HL.out _ _).trans H18.out)
          have f16 := B1.out.free 16
          have f17 := B1.out.free 17
          go_wp2_with fail
          refine (digit_c S1.out.cur HDG.out).mono ?_
          rintro r w2 ⟨rfl, h, m1⟩
          have S2 : Hid (Sr w0 w2 b src a σ) := hid (S1.out.move m1 h)
          have B2 := hid (B1.out.keep m1.kp (by simpa using hne))
          clear q16 q17 q18 f16 f17 h m1 S1 B1
          have q16 := B2.out.at_ 16 _ (set16 HL.out _ _)
          have q17 := B2.out.at_ 17 _ (set17 HL.out _ _)
          have q18 := B2.out.at_ 18 _ ((set18 HL.out _ _).trans H18.out)
          have f16 := B2.out.free 16
          have f17 := B2.out.free 17
          go_wp2_with fail
          refine (take_v 119 S2.out.cur H119.out).mono ?_
          rintro r w3 ⟨rfl, h, m1⟩
          have S3 : Hid (Sr w0 w3 b src a σ) := hid (S2.out.move m1 h)
          have B3 := hid (B2.out.keep m1.kp (by simpa using hne))
          clear q16 q17 q18 f16 f17 h m1 S2 B2
          have q16 := B3.out.at_ 16 _ (set16 HL.out _ _)
          have q17 := B3.out.at_ 17 _ (set17 HL.out _ _)
          have q18 := B3.out.at_ 18 _ ((set18 HL.out _ _).trans H18.out)
          have f16 := B3.out.free 16
          have f17 := B3.out.free 17
          go_wp2_with fail
          refine bodyPost_ret (results_none rfl _ _ _) rfl ⟨rfl, ?_, ?_⟩
          · exact S3.out
          · exact B3.out
      · rw [if_neg (by simp [hm0])] at hN
        injection hN with hN
        injection hN with n1 n2
        injection n2 with n2 n3
        subst n1 n2 n3
        have hmi : ((m : Int) == 0) = false := by rw [beq_eq_false_iff_ne]; omega
        have S0 := HS
        have B0 := HB
        clear HS HB
        have q16 := B0.out.at_ 16 _ (set16 HL.out _ _)
        have q17 := B0.out.at_ 17 _ (set17 HL.out _ _)
        have q18 := B0.out.at_ 18 _ ((set18 HL.out _ _).trans H18.out)
        have f16 := B0.out.free 16
        have f17 := B0.out.free 17
        go_wp2_with fail
        refine (take_v 112 S0.out.cur H112.out).mono ?_
        rintro r w1 ⟨rfl, h, m1⟩
        have S1 : Hid (Sr w0 w1 b src a σ) := hid (S0.out.move m1 h)
        have B1 := hid (B0.out.keep m1.kp (by simpa using hne))
        clear q16 q17 q18 f16 f17 h m1 S0 B0
        have q16 := B1.out.at_ 16 _ (set16 HL.out _ _)
        have q17 := B1.out.at_ 17 _ (set17 HL.out _ _)
        have q18 := B1.out.at_ 18 _ ((set18 HL.out _ _).trans H18.out)
        have f16 := B1.out.free 16
        have f17 := B1.out.free 17
        go_wp2_with fail
        refine (take_v 119 S1.out.cur H119.out).mono ?_
        rintro r w2 ⟨rfl, h, m1⟩
        have S2 : Hid (Sr w0 w2 b src a σ) := hid (S1.out.move m1 h)
        have B2 := hid (B1.out.keep m1.kp (by simpa using hne))
        clear q16 q17 q18 f16 f17 h m1 S1 B1
        have q16 := B2.out.at_ 16 _ (set16 HL.out _ _)
        have q17 := B2.out.at_ 17 _ (set17 HL.out _ _)
        have q18 := B2.out.at_ 18 _ ((set18 HL.out _ _).trans H18.out)
        have f16 := B2.out.free 16
        have f17 := B2.out.free 17
        go_wp2_with fail
        refine bodyPost_ret (results_none rfl _ _ _) rfl ⟨rfl, ?_, ?_⟩
        · exact S2.out
        · exact B2.out
end
end Go.Proofs.YtonnimbcekhbgaaGreatDoor
