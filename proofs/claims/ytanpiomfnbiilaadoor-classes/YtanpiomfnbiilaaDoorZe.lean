/- The classes of the law: their texts, their bytes, and that found answers by them. -/
import Derived.Test.YtanpiomfnbiilaaDoorZa
import Derived.Test.YtanpiomfnbiilaaDoorZc
namespace Go.Proofs.YtanpiomfnbiilaaDoor
open Go.RowKit

/-- The classes of the law, by their numbers. -/
def cls (a b : Nat) : Nat → ByteArray
  | 0 => ⟨#[91, 58, 97, 108, 112, 104, 97, 58, 93]⟩
  | 1 => ⟨#[91, 58, 100, 105, 103, 105, 116, 58, 93]⟩
  | 2 => ⟨#[91, 58, 97, 108, 110, 117, 109, 58, 93]⟩
  | 3 => ⟨#[91, 58, 117, 112, 112, 101, 114, 58, 93]⟩
  | 4 => ⟨#[91, 58, 108, 111, 119, 101, 114, 58, 93]⟩
  | 5 => ⟨#[91, 58, 115, 112, 97, 99, 101, 58, 93]⟩
  | 6 => ⟨#[91, 58, 112, 117, 110, 99, 116, 58, 93]⟩
  | _ => ⟨#[97 + UInt8.ofNat a, 45, 97 + UInt8.ofNat a + UInt8.ofNat b]⟩

/-- Their bytes. -/
def clsM (a d i : Nat) : Nat → Bool := if i < 7 then addSp noBytes (nmS i).data.toList else span noBytes (97 + a) (97 + (a + d) + 1)

/-- The patterns: the class, and all bytes but its own. -/
def pin (a d i : Nat) : ByteArray := (⟨#[91]⟩ ++ cls a d i) ++ ⟨#[93]⟩
def pout (a d i : Nat) : ByteArray := (⟨#[91, 94]⟩ ++ cls a d i) ++ ⟨#[93]⟩

theorem cls_size (a d i : Nat) : (cls a d i).size ≤ 9 := by
  match i with
  | 0 | 1 | 2 | 3 | 4 | 5 | 6 => exact Nat.le_refl _
  | _ + 7 => show 3 ≤ 9; omega

theorem pin_name : ∀ i : Fin 7, pin 0 0 i = patN i := by decide +kernel
theorem pout_name : ∀ i : Fin 7, pout 0 0 i = patX i := by decide +kernel
theorem cls_any (a d i : Nat) (hi : i < 7) : cls a d i = cls 0 0 i := by
  match i, hi with
  | 0, _ | 1, _ | 2, _ | 3, _ | 4, _ | 5, _ | 6, _ => rfl
theorem pin_span : ∀ a d : Fin 26, pin a d 7 = patR a (a + d : Nat) := by decide +kernel
theorem pout_span : ∀ a d : Fin 26, pout a d 7 = patS a (a + d : Nat) := by decide +kernel

theorem pin_piece (a d i : Nat) (hi : i < 8) (h : a + d < 26) : (0 < (pin a d i).size ∧ (pin a d i).size ≤ 100 ∧ saw (pin a d i) 0 124 = false ∧ saw (pin a d i) 0 41 = false) ∧ ∀ b, b ≠ 0 → PieceOk b (pin a d i) 0 (pin a d i).size 0 (oneV (clsM a d i)) := by
  by_cases h7 : i < 7
  · have e : pin a d i = patN i := by
      have := pin_name ⟨i, h7⟩
      unfold pin at this ⊢
      rw [cls_any a d i h7]; exact this
    have em : clsM a d i = addSp noBytes (nmS i).data.toList := by unfold clsM; rw [if_pos h7]
    obtain ⟨z, _, _, _, _, _, _, _, _, _, _, _, b3, b4⟩ := patN_facts ⟨i, h7⟩
    rw [e, em]
    exact ⟨⟨by rw [z]; omega, by rw [z]; omega, b3, b4⟩, fun b hb => pieceN i h7 b hb⟩
  · have h8 : i = 7 := by omega
    subst h8
    have e : pin a d 7 = patR a (a + d) := pin_span ⟨a, by omega⟩ ⟨d, by omega⟩
    have em : clsM a d 7 = span noBytes (97 + a) (97 + (a + d) + 1) := by unfold clsM; rw [if_neg (by omega)]
    obtain ⟨_, _, _, _, _, _, _, _, _, _, _, _, _, _, _, b3, b4, _, _⟩ := patR_facts ⟨a, by omega⟩ ⟨a + d, by omega⟩
    rw [e, em]
    exact ⟨⟨by show 0 < 5; omega, by show 5 ≤ 100; omega, b3, b4⟩, fun b hb => pieceR a (a + d) (by omega) (by omega) (by omega) b hb⟩

theorem pout_piece (a d i : Nat) (hi : i < 8) (h : a + d < 26) : (0 < (pout a d i).size ∧ (pout a d i).size ≤ 100 ∧ saw (pout a d i) 0 124 = false ∧ saw (pout a d i) 0 41 = false) ∧ ∀ b, b ≠ 0 → PieceOk b (pout a d i) 0 (pout a d i).size 0 (oneV fun x => !clsM a d i x) := by
  by_cases h7 : i < 7
  · have e : pout a d i = patX i := by
      have := pout_name ⟨i, h7⟩
      unfold pout at this ⊢
      rw [cls_any a d i h7]; exact this
    have em : clsM a d i = addSp noBytes (nmS i).data.toList := by unfold clsM; rw [if_pos h7]
    obtain ⟨z, _, _, _, _, _, _, _, _, _, _, _, b3, b4⟩ := patX_facts ⟨i, h7⟩
    rw [e, em]
    exact ⟨⟨by rw [z]; omega, by rw [z]; omega, b3, b4⟩, fun b hb => pieceX i h7 b hb⟩
  · have h8 : i = 7 := by omega
    subst h8
    have e : pout a d 7 = patS a (a + d) := pout_span ⟨a, by omega⟩ ⟨d, by omega⟩
    have em : clsM a d 7 = span noBytes (97 + a) (97 + (a + d) + 1) := by unfold clsM; rw [if_neg (by omega)]
    obtain ⟨_, _, _, _, _, _, _, _, _, _, _, _, _, _, _, b3, b4, _, _⟩ := patS_facts ⟨a, by omega⟩ ⟨a + d, by omega⟩
    rw [e, em]
    exact ⟨⟨by show 0 < 6; omega, by show 6 ≤ 100; omega, b3, b4⟩, fun b hb => pieceS a (a + d) (by omega) (by omega) (by omega) b hb⟩

theorem found_pin {a d i c : Nat} {b : Bool} {w : World} (hw : Nm w) (hi : i < 8) (h : a + d < 26) (hc : c < 256) (hb : clsM a d i c = b) (at0 : Int) (hat : at0 = if b = true then 0 else -1) :
    Calls Tryd.prog 10 #[.string (pin a d i), .string ⟨#[UInt8.ofNat c]⟩, .int .i64 at0, .int .i64 1] w fun e w' => e = .returned (.bool true) ∧ Kp [] w w' := by
  obtain ⟨⟨z0, z1, z2, z3⟩, hp⟩ := pin_piece a d i hi h
  have hy : (UInt8.ofNat c).toNat = c := by rw [UInt8.toNat_ofNat']; omega
  subst hat
  cases b with
  | true => exact found_yes hw z0 z1 z2 z3 hp (by rw [hy]; exact hb)
  | false => exact found_no hw z0 z1 z2 z3 hp (by rw [hy]; exact hb)

theorem found_pout {a d i c : Nat} {b : Bool} {w : World} (hw : Nm w) (hi : i < 8) (h : a + d < 26) (hc : c < 256) (hb : clsM a d i c = b) (at0 : Int) (hat : at0 = if b = true then -1 else 0) :
    Calls Tryd.prog 10 #[.string (pout a d i), .string ⟨#[UInt8.ofNat c]⟩, .int .i64 at0, .int .i64 1] w fun e w' => e = .returned (.bool true) ∧ Kp [] w w' := by
  obtain ⟨⟨z0, z1, z2, z3⟩, hp⟩ := pout_piece a d i hi h
  have hy : (UInt8.ofNat c).toNat = c := by rw [UInt8.toNat_ofNat']; omega
  subst hat
  cases b with
  | true => exact found_no hw z0 z1 z2 z3 hp (by rw [hy]; show (!clsM a d i c) = false; rw [hb]; rfl)
  | false => exact found_yes hw z0 z1 z2 z3 hp (by rw [hy]; show (!clsM a d i c) = true; rw [hb]; rfl)

/-- What the law says of a byte, as the sets say it. -/
theorem in_facts {a d c : Nat} {U1 U2 L1 L2 D1 D2 S0 S1 S2 P1 P2 R1 R2 UP LO DG AL : Bool} (hU1 : decide ((65 : Int) ≤ c) = U1) (hU2 : decide ((c : Int) ≤ 90) = U2) (hL1 : decide ((97 : Int) ≤ c) = L1) (hL2 : decide ((c : Int) ≤ 122) = L2)
    (hD1 : decide ((48 : Int) ≤ c) = D1) (hD2 : decide ((c : Int) ≤ 57) = D2) (hS0 : decide ((c : Int) = 32) = S0) (hS1 : decide ((9 : Int) ≤ c) = S1) (hS2 : decide ((c : Int) ≤ 13) = S2) (hP1 : decide ((33 : Int) ≤ c) = P1) (hP2 : decide ((c : Int) ≤ 126) = P2)
    (hR1 : decide (97 + (a : Int) ≤ c) = R1) (hR2 : decide ((c : Int) ≤ 97 + (a : Int) + (d : Int)) = R2) (hUP : (U1 && U2) = UP) (hLO : (L1 && L2) = LO) (hDG : (D1 && D2) = DG) (hAL : (UP || LO) = AL) :
    ∀ i, i < 8 → [AL, DG, AL || DG, UP, LO, S0 || S1 && S2, P1 && P2 && !AL && !DG, R1 && R2][i]? = some (clsM a d i c) := by
  subst hUP hLO hDG hAL
  subst hU1 hU2 hL1 hL2 hD1 hD2 hS0 hS1 hS2 hP1 hP2 hR1 hR2
  intro i hi
  match i, hi with
  | 0, _ | 1, _ | 2, _ | 3, _ | 4, _ | 5, _ | 6, _ | 7, _ =>
    simp only [List.getElem?_cons_zero, List.getElem?_cons_succ, Option.some.injEq, clsM]
    simp [nmS, addSp, span, noBytes]
    rw [Bool.eq_iff_iff]
    simp
    try omega
end Go.Proofs.YtanpiomfnbiilaaDoor
