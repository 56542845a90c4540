/- found over a pattern that is one class and a text of one byte. -/
import Derived.Test.YtanpiomfnbiilaaDoorRF
namespace Go.Proofs.YtanpiomfnbiilaaDoor
open Go.RowKit

theorem row_class {src : ByteArray} {m : Nat → Bool} {b : Nat} (h0 : 0 < src.size) (h124 : saw src 0 124 = false) (h41 : saw src 0 41 = false) (hp : PieceOk b src 0 src.size 0 (oneV m)) : RowOk b src 0 0 ((pcsOf 0 0 1 (fun _ => m)).map Pc.val) :=
  ⟨h0, h124, h41, ⟨_, _, rfl⟩, src.size, h0, hp, rfl⟩
theorem stands_class (y : UInt8) (m : Nat → Bool) (a : Nat) : Stands 0 0 1 (fun _ => m) ⟨#[y]⟩ a ↔ a = 0 ∧ m y.toNat = true := by
  have hz : (⟨#[y]⟩ : ByteArray).size = 1 := rfl
  unfold Stands
  rw [hz]
  constructor
  · rintro ⟨_, h1, h2, _⟩
    have e : a = 0 := by omega
    subst e
    refine ⟨rfl, ?_⟩
    have h3 : (true && (if h : 0 + 0 < (⟨#[y]⟩ : ByteArray).size then m ((⟨#[y]⟩ : ByteArray)[0 + 0]'h).toNat else false)) = true := h2
    rw [dif_pos (by rw [hz]; omega), Bool.true_and] at h3
    exact h3
  · rintro ⟨rfl, h⟩
    refine ⟨.inl rfl, by omega, ?_, fun q => by omega⟩
    show (true && (if h : 0 + 0 < (⟨#[y]⟩ : ByteArray).size then m ((⟨#[y]⟩ : ByteArray)[0 + 0]'h).toNat else false)) = true
    rw [dif_pos (by rw [hz]; omega), Bool.true_and]
    exact h

theorem found_yes {src : ByteArray} {y : UInt8} {m : Nat → Bool} {w : World} (hw : Nm w) (h0 : 0 < src.size) (hs : src.size ≤ 100) (h124 : saw src 0 124 = false) (h41 : saw src 0 41 = false) (hp : ∀ b, b ≠ 0 → PieceOk b src 0 src.size 0 (oneV m)) (hm : m y.toNat = true) :
    Calls Tryd.prog 10 #[.string src, .string ⟨#[y]⟩, .int .i64 0, .int .i64 1] w fun e w' => e = .returned (.bool true) ∧ Kp [] w w' :=
  found_row (B := 0) (E := 0) (L := 1) (ms := fun _ => m) (fr := 0) (to := 1) hw hs (by show (1 : Nat) ≤ 1000; omega) (by omega) (by omega) (by omega) (fun b hb => row_class h0 h124 h41 (hp b hb)) (.inl ⟨0, (stands_class y m 0).2 ⟨rfl, hm⟩, fun b hb => by omega, rfl, rfl⟩)
theorem found_no {src : ByteArray} {y : UInt8} {m : Nat → Bool} {w : World} (hw : Nm w) (h0 : 0 < src.size) (hs : src.size ≤ 100) (h124 : saw src 0 124 = false) (h41 : saw src 0 41 = false) (hp : ∀ b, b ≠ 0 → PieceOk b src 0 src.size 0 (oneV m)) (hm : m y.toNat = false) :
    Calls Tryd.prog 10 #[.string src, .string ⟨#[y]⟩, .int .i64 (-1), .int .i64 1] w fun e w' => e = .returned (.bool true) ∧ Kp [] w w' :=
  found_row (B := 0) (E := 0) (L := 1) (ms := fun _ => m) (fr := -1) (to := 1) hw hs (by show (1 : Nat) ≤ 1000; omega) (by omega) (by omega) (by omega) (fun b hb => row_class h0 h124 h41 (hp b hb)) (.inr ⟨fun a st => (by have := ((stands_class y m a).1 st).2; rw [hm] at this; cases this), rfl⟩)
end Go.Proofs.YtanpiomfnbiilaaDoor
