/- The patterns of the law on classes: each is read as one class. -/
import Derived.Test.YtanpiomfnbiilaaDoorF
namespace Go.Proofs.YtanpiomfnbiilaaDoor
open Go.RowKit

/-- The pattern of a named class, and of all other bytes. -/
def patN (i : Nat) : ByteArray := ⟨#[91, 91, 58] ++ (nmN i).data ++ #[58, 93, 93]⟩
def patX (i : Nat) : ByteArray := ⟨#[91, 94, 91, 58] ++ (nmN i).data ++ #[58, 93, 93]⟩

theorem patN_facts : ∀ i : Fin 7, (patN i).size = 11 ∧ saw (patN i) 0 94 = false ∧ saw (patN i) 0 36 = false ∧ saw (patN i) 0 40 = false ∧ saw (patN i) 0 46 = false ∧ saw (patN i) 0 91 = true ∧ saw (patN i) 1 94 = false ∧
    saw (patN i) 1 91 = true ∧ saw (patN i) 2 58 = true ∧ saw (patN i) 8 58 = true ∧ saw (patN i) 9 93 = true ∧ saw (patN i) 10 93 = true ∧ saw (patN i) 0 124 = false ∧ saw (patN i) 0 41 = false := by decide +kernel
theorem patN_name : ∀ i : Fin 7, ∀ j : Fin 5, (patN i).extract 3 (3 + (j + 1)) = (nmN i).extract 0 (j + 1) := by decide +kernel
theorem patX_facts : ∀ i : Fin 7, (patX i).size = 12 ∧ saw (patX i) 0 94 = false ∧ saw (patX i) 0 36 = false ∧ saw (patX i) 0 40 = false ∧ saw (patX i) 0 46 = false ∧ saw (patX i) 0 91 = true ∧ saw (patX i) 1 94 = true ∧
    saw (patX i) 2 91 = true ∧ saw (patX i) 3 58 = true ∧ saw (patX i) 9 58 = true ∧ saw (patX i) 10 93 = true ∧ saw (patX i) 11 93 = true ∧ saw (patX i) 0 124 = false ∧ saw (patX i) 0 41 = false := by decide +kernel
theorem patX_name : ∀ i : Fin 7, ∀ j : Fin 5, (patX i).extract 4 (4 + (j + 1)) = (nmN i).extract 0 (j + 1) := by decide +kernel

theorem saw_past {s : ByteArray} {k : Nat} (h : s.size ≤ k) (x : Int) : saw s k x = false := by unfold saw; rw [dif_neg (by omega)]

theorem pieceN (i : Nat) (hi : i < 7) (b : Nat) (hb : b ≠ 0) : PieceOk b (patN i) 0 (patN i).size 0 (oneV (addSp noBytes (nmS i).data.toList)) := by
  obtain ⟨z, a1, a2, a3, a4, a5, a6, a7, a8, a9, b1, b2, _, _⟩ := patN_facts ⟨i, hi⟩
  simp only at z a1 a2 a3 a4 a5 a6 a7 a8 a9 b1 b2
  intro w hr hw
  rw [z]
  refine piece_class hr hw hb a1 a2 a3 a4 a5 (l := 11) (fun w1 r1 n1 => ?_) (saw_past (by omega) _) (saw_past (by omega) _) (saw_past (by omega) _) (saw_past (by omega) _)
  exact class_plain (l := 10) r1 n1 hb a6 (fun w2 s r2 s2 n2 hbs => item_name r2 s2 n2 hb hbs i hi a7 a8 (by omega) (fun j hj => patN_name ⟨i, hi⟩ ⟨j, hj⟩) a9 b1) b2

theorem pieceX (i : Nat) (hi : i < 7) (b : Nat) (hb : b ≠ 0) : PieceOk b (patX i) 0 (patX i).size 0 (oneV fun x => !addSp noBytes (nmS i).data.toList x) := by
  obtain ⟨z, a1, a2, a3, a4, a5, a6, a7, a8, a9, b1, b2, _, _⟩ := patX_facts ⟨i, hi⟩
  simp only at z a1 a2 a3 a4 a5 a6 a7 a8 a9 b1 b2
  intro w hr hw
  rw [z]
  refine piece_class hr hw hb a1 a2 a3 a4 a5 (l := 12) (fun w1 r1 n1 => ?_) (saw_past (by omega) _) (saw_past (by omega) _) (saw_past (by omega) _) (saw_past (by omega) _)
  exact class_not (l := 11) r1 n1 hb a6 (fun w2 s r2 s2 n2 hbs => item_name r2 s2 n2 hb hbs i hi a7 a8 (by omega) (fun j hj => patX_name ⟨i, hi⟩ ⟨j, hj⟩) a9 b1) b2

/-- The pattern of a range of letters, and of all other bytes: letters by their numbers from 0 on. -/
def patR (a b : Nat) : ByteArray := ⟨#[91, (97 + a).toUInt8, 45, (97 + b).toUInt8, 93]⟩
def patS (a b : Nat) : ByteArray := ⟨#[91, 94, (97 + a).toUInt8, 45, (97 + b).toUInt8, 93]⟩

theorem patR_facts : ∀ a b : Fin 26, saw (patR a b) 0 94 = false ∧ saw (patR a b) 0 36 = false ∧ saw (patR a b) 0 40 = false ∧ saw (patR a b) 0 46 = false ∧ saw (patR a b) 0 91 = true ∧ saw (patR a b) 1 94 = false ∧
    saw (patR a b) 1 91 = false ∧ saw (patR a b) 1 92 = false ∧ saw (patR a b) 1 10 = false ∧ Lib.indexByte [92, 91, 93, 45] ((patR a b).data.getD 1 0) = -1 ∧ saw (patR a b) 2 45 = true ∧ saw (patR a b) 3 92 = false ∧ saw (patR a b) 3 10 = false ∧
    Lib.indexByte [92, 91, 93, 45] ((patR a b).data.getD 3 0) = -1 ∧ saw (patR a b) 4 93 = true ∧ saw (patR a b) 0 124 = false ∧ saw (patR a b) 0 41 = false ∧ ((patR a b).data.getD 1 0).toNat = 97 + a ∧ ((patR a b).data.getD 3 0).toNat = 97 + b := by decide +kernel
theorem patS_facts : ∀ a b : Fin 26, saw (patS a b) 0 94 = false ∧ saw (patS a b) 0 36 = false ∧ saw (patS a b) 0 40 = false ∧ saw (patS a b) 0 46 = false ∧ saw (patS a b) 0 91 = true ∧ saw (patS a b) 1 94 = true ∧
    saw (patS a b) 2 91 = false ∧ saw (patS a b) 2 92 = false ∧ saw (patS a b) 2 10 = false ∧ Lib.indexByte [92, 91, 93, 45] ((patS a b).data.getD 2 0) = -1 ∧ saw (patS a b) 3 45 = true ∧ saw (patS a b) 4 92 = false ∧ saw (patS a b) 4 10 = false ∧
    Lib.indexByte [92, 91, 93, 45] ((patS a b).data.getD 4 0) = -1 ∧ saw (patS a b) 5 93 = true ∧ saw (patS a b) 0 124 = false ∧ saw (patS a b) 0 41 = false ∧ ((patS a b).data.getD 2 0).toNat = 97 + a ∧ ((patS a b).data.getD 4 0).toNat = 97 + b := by decide +kernel

theorem pieceR (a b : Nat) (ha : a < 26) (hb : b < 26) (hab : a ≤ b) (q : Nat) (hq : q ≠ 0) : PieceOk q (patR a b) 0 (patR a b).size 0 (oneV (span noBytes (97 + a) (97 + b + 1))) := by
  obtain ⟨a1, a2, a3, a4, a5, a6, a7, a8, a9, b1, b2, b3, b4, b5, b6, _, _, b7, b8⟩ := patR_facts ⟨a, ha⟩ ⟨b, hb⟩
  simp only at a1 a2 a3 a4 a5 a6 a7 a8 a9 b1 b2 b3 b4 b5 b6 b7 b8
  have z : (patR a b).size = 5 := rfl
  have e1 : (patR a b)[1]'(by rw [z]; omega) = (patR a b).data.getD 1 0 := rfl
  have e3 : (patR a b)[3]'(by rw [z]; omega) = (patR a b).data.getD 3 0 := rfl
  intro w hr hw
  rw [z]
  refine piece_class hr hw hq a1 a2 a3 a4 a5 (l := 5) (fun w1 r1 n1 => ?_) (saw_past (by omega) _) (saw_past (by omega) _) (saw_past (by omega) _) (saw_past (by omega) _)
  refine class_plain (l := 4) r1 n1 hq a6 (fun w2 s r2 s2 n2 hbs => ?_) b6
  have h := item_span r2 s2 hbs a7 (by omega) a8 a9 (by rw [e1]; exact b1) b2 b3 b4 (by rw [e3]; exact b5) (by rw [e1, e3, b7, b8]; omega)
  rw [e1, e3, b7, b8] at h
  exact h

theorem pieceS (a b : Nat) (ha : a < 26) (hb : b < 26) (hab : a ≤ b) (q : Nat) (hq : q ≠ 0) : PieceOk q (patS a b) 0 (patS a b).size 0 (oneV fun x => !span noBytes (97 + a) (97 + b + 1) x) := by
  obtain ⟨a1, a2, a3, a4, a5, a6, a7, a8, a9, b1, b2, b3, b4, b5, b6, _, _, b7, b8⟩ := patS_facts ⟨a, ha⟩ ⟨b, hb⟩
  simp only at a1 a2 a3 a4 a5 a6 a7 a8 a9 b1 b2 b3 b4 b5 b6 b7 b8
  have z : (patS a b).size = 6 := rfl
  have e1 : (patS a b)[2]'(by rw [z]; omega) = (patS a b).data.getD 2 0 := rfl
  have e3 : (patS a b)[4]'(by rw [z]; omega) = (patS a b).data.getD 4 0 := rfl
  intro w hr hw
  rw [z]
  refine piece_class hr hw hq a1 a2 a3 a4 a5 (l := 6) (fun w1 r1 n1 => ?_) (saw_past (by omega) _) (saw_past (by omega) _) (saw_past (by omega) _) (saw_past (by omega) _)
  refine class_not (l := 5) r1 n1 hq a6 (fun w2 s r2 s2 n2 hbs => ?_) b6
  have h := item_span r2 s2 hbs a7 (by omega) a8 a9 (by rw [e1]; exact b1) b2 b3 b4 (by rw [e3]; exact b5) (by rw [e1, e3, b7, b8]; omega)
  rw [e1, e3, b7, b8] at h
  exact h
end Go.Proofs.YtanpiomfnbiilaaDoor
