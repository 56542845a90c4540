/- Match and found over a pattern that is one class and a text of one byte, out of what Find is said to do. -/
import Derived.Test.YtbakfojamdocgaaDoorJ
namespace Go.Proofs.YtbakfojamdocgaaDoor
open Go.RowKit

/-- What Find does with a pattern that is one class, in a text of one byte. -/
def FindSaid : Prop := ∀ (w : World) (p B : Nat) (y : UInt8) (m : Nat → Bool), Pt B w p 2 1 0 0 (ins0 6 0 0 0 0 ++ ins 0 0 0 0 0 m) →
  Calls Tryd.prog 16 #[.pointer (some ⟨p, 0, none⟩), .string ⟨#[y]⟩] w fun e w' => Kp [] w w' ∧
    ((m y.toNat = true ∧ ∃ b, e = .returned (.slice (some ⟨b, 0, none⟩) 2 2) ∧ w'.cell? ⟨b, 0, none⟩ = some (.int .i64 0) ∧ w'.cell? ⟨b, 1, none⟩ = some (.int .i64 1)) ∨
     (m y.toNat = false ∧ e = .returned (.slice none 0 0)))

set_option maxRecDepth 100000 in
set_option maxHeartbeats 1000000 in
theorem match_one (hfind : FindSaid) {src : ByteArray} {y : UInt8} {m : Nat → Bool} {w : World} (hw : Nm w) (h0 : 0 < src.size) (hs : src.size ≤ 100)
    (h124 : saw src 0 124 = false) (h41 : saw src 0 41 = false) (hp : ∀ b, b ≠ 0 → PieceOk b src 0 src.size 0 (oneV m)) :
    Calls Tryd.prog 13 #[.string src, .string ⟨#[y]⟩] w fun e w' => Kp [] w w' ∧
      ((m y.toNat = true ∧ ∃ b, e = .returned (.tuple #[.slice (some ⟨b, 0, none⟩) 2 2, .int .i64 0, .int .i64 0]) ∧ w'.cell? ⟨b, 0, none⟩ = some (.int .i64 0) ∧ w'.cell? ⟨b, 1, none⟩ = some (.int .i64 1)) ∨
       (m y.toNat = false ∧ e = .returned (.tuple #[.slice none 0 0, .int .i64 0, .int .i64 0]))) := by
  have htl : (ByteArray.mk #[y]).size = 1 := rfl
  go_enter Tryd.func13, Tryd.ntmps13
  go_wp2_with fail
  refine (readPattern_one hw h0 hs h124 h41 hp).mono ?_
  rintro e w1 ⟨p, rfl, pt, k1⟩
  have PT := hid pt
  clear pt hp
  go_wp2_with fail
  refine (hfind w1 p _ y m PT.out).mono ?_
  rintro e w2 ⟨k2, ⟨hm, b, rfl, c0, c1⟩ | ⟨hm, rfl⟩⟩
  · go_wp2_with fail
    go_ret3
    exact ⟨k1.trans k2, .inl ⟨hm, b, rfl, c0, c1⟩⟩
  · go_wp2_with fail
    go_ret3
    exact ⟨k1.trans k2, .inr ⟨hm, rfl⟩⟩

set_option maxRecDepth 100000 in
set_option maxHeartbeats 1000000 in
theorem found_yes (hfind : FindSaid) {src : ByteArray} {y : UInt8} {m : Nat → Bool} {w : World} (hw : Nm w) (h0 : 0 < src.size) (hs : src.size ≤ 100)
    (h124 : saw src 0 124 = false) (h41 : saw src 0 41 = false) (hp : ∀ b, b ≠ 0 → PieceOk b src 0 src.size 0 (oneV m)) (hm : m y.toNat = true) :
    Calls Tryd.prog 10 #[.string src, .string ⟨#[y]⟩, .int .i64 0, .int .i64 1] w fun e w' => e = .returned (.bool true) ∧ Kp [] w w' := by
  have HM := hid hm
  clear hm
  go_enter Tryd.func10, Tryd.ntmps10
  go_wp2_with fail
  refine (match_one hfind hw h0 hs h124 h41 hp (y := y)).mono ?_
  rintro e w1 ⟨k1, ⟨_, b, rfl, c0, c1⟩ | ⟨hm, _⟩⟩
  · clear hp
    go_wp2_with fail
    go_ret
    exact ⟨rfl, k1⟩
  · rw [HM.out] at hm; cases hm

set_option maxRecDepth 100000 in
set_option maxHeartbeats 1000000 in
theorem found_no (hfind : FindSaid) {src : ByteArray} {y : UInt8} {m : Nat → Bool} {w : World} (hw : Nm w) (h0 : 0 < src.size) (hs : src.size ≤ 100)
    (h124 : saw src 0 124 = false) (h41 : saw src 0 41 = false) (hp : ∀ b, b ≠ 0 → PieceOk b src 0 src.size 0 (oneV m)) (hm : m y.toNat = false) :
    Calls Tryd.prog 10 #[.string src, .string ⟨#[y]⟩, .int .i64 (-1), .int .i64 1] w fun e w' => e = .returned (.bool true) ∧ Kp [] w w' := by
  have HM := hid hm
  clear hm
  go_enter Tryd.func10, Tryd.ntmps10
  go_wp2_with fail
  refine (match_one hfind hw h0 hs h124 h41 hp (y := y)).mono ?_
  rintro e w1 ⟨k1, ⟨hm, _⟩ | ⟨_, rfl⟩⟩
  · rw [HM.out] at hm; cases hm
  · clear hp
    go_wp2_with fail
    go_ret
    exact ⟨rfl, k1⟩
end Go.Proofs.YtbakfojamdocgaaDoor
