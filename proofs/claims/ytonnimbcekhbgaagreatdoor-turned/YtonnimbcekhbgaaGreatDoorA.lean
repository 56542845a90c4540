/- The small functions of the reader: contracts over the cells of its block. -/
import Derived.Test.YtonnimbcekhbgaaGreatDoorRows
import Derived.Test.YtonnimbcekhbgaaGreatDoorM
import Derived.WalkKit
import Derived.WalkSpells
import Derived.WalkLawsBesides
import Derived.Deep.QuietTactic
import Derived.BigQuiet
namespace Go.Proofs.YtonnimbcekhbgaaGreatDoor
open Go.RowKit

set_option maxHeartbeats 400000 in
theorem ended_any (b : Nat) (src : ByteArray) (k : Nat) (w : World)
    (c0 : w.cell? ⟨b, 0, none⟩ = some (.string src)) (c1 : w.cell? ⟨b, 1, none⟩ = some (.int .i64 k)) :
    Calls Tryz.prog 79 #[.pointer (some ⟨b, 0, none⟩)] w fun e w' => e = .returned (.bool ((k : Int) == (src.size : Int))) ∧ ∃ n, w' = w.drewN n := by
  go_enter Tryz.func79, Tryz.ntmps79
  go_wp2
  go_quiet (fail)
  go_wp2
  go_ret
  exact ⟨rfl, _, rfl⟩

set_option maxHeartbeats 400000 in
theorem sees_end (b : Nat) (src : ByteArray) (k : Nat) (x : Int) (w : World)
    (c0 : w.cell? ⟨b, 0, none⟩ = some (.string src)) (c1 : w.cell? ⟨b, 1, none⟩ = some (.int .i64 k)) (hk : k = src.size) :
    Calls Tryz.prog 104 #[.pointer (some ⟨b, 0, none⟩), .int .u8 x] w fun e w' => e = .returned (.bool false) ∧ ∃ n, w' = w.drewN n := by
  have hb : ((k : Int) == (src.size : Int)) = true := by simp [hk]
  have HK : Hid (k = src.size) := hk
  clear hk
  go_enter Tryz.func104, Tryz.ntmps104
  go_wp2
  go_quiet ((go_at_call 79; exact Calls.quiet_of (ended_any b src k _ (by simpa using c0) (by simpa using c1))))
  go_wp2
  go_ret
  exact ⟨rfl, _, rfl⟩

set_option maxHeartbeats 400000 in
theorem sees_in (b : Nat) (src : ByteArray) (k : Nat) (x : Int) (w : World)
    (c0 : w.cell? ⟨b, 0, none⟩ = some (.string src)) (c1 : w.cell? ⟨b, 1, none⟩ = some (.int .i64 k)) (hk : k < src.size) :
    Calls Tryz.prog 104 #[.pointer (some ⟨b, 0, none⟩), .int .u8 x] w fun e w' => e = .returned (.bool (((src[k]).toNat : Int) == x)) ∧ ∃ n, w' = w.drewN n := by
  have hb : ((k : Int) == (src.size : Int)) = false := by simp; omega
  go_enter Tryz.func104, Tryz.ntmps104
  go_wp2
  go_quiet ((go_at_call 79; exact Calls.quiet_of (ended_any b src k _ (by simpa using c0) (by simpa using c1))))
  go_wp2
  go_ret
  exact ⟨rfl, _, rfl⟩

theorem sees_any {b : Nat} {src : ByteArray} {k g : Nat} (x : Int) {w : World} (hr : Rd w b src k g) :
    Calls Tryz.prog 104 #[.pointer (some ⟨b, 0, none⟩), .int .u8 x] w fun e w' => e = .returned (.bool (saw src k x)) ∧ ∃ n, w' = w.drewN n := by
  by_cases hk : k < src.size
  · have := sees_in b src k x w hr.c0 hr.c1 hk
    simpa [saw, hk] using this
  · have := sees_end b src k x w hr.c0 hr.c1 (by have := hr.le; omega)
    simpa [saw, hk] using this

set_option maxHeartbeats 400000 in
theorem take_no {b : Nat} {src : ByteArray} {k g : Nat} (x : Int) {w : World} (hr : Rd w b src k g) (h : saw src k x = false) :
    Calls Tryz.prog 116 #[.pointer (some ⟨b, 0, none⟩), .int .u8 x] w fun e w' => e = .returned (.bool false) ∧ Rd w' b src k g ∧ Kp [b] w w' := by
  have H : Hid _ := h
  go_enter Tryz.func116, Tryz.ntmps116
  go_wp2_with (go_at_call 104; refine (sees_any x hr).mono ?_; rintro e w1 ⟨rfl, n, rfl⟩)
  go_ret
  exact ⟨rfl, hr.drewN n, Kp.drewN _ _ _⟩

set_option maxHeartbeats 400000 in
theorem take_yes {b : Nat} {src : ByteArray} {k g : Nat} (x : Int) {w : World} (hr : Rd w b src k g) (h : saw src k x = true) :
    Calls Tryz.prog 116 #[.pointer (some ⟨b, 0, none⟩), .int .u8 x] w fun e w' => e = .returned (.bool true) ∧ Rd w' b src (k + 1) g ∧ Kp [b] w w' := by
  have c1 := hr.c1
  have f1 := hr.free 1
  have hk := saw_lt h
  have hsm := hr.small
  go_enter Tryz.func116, Tryz.ntmps116
  go_wp2_with (go_at_call 104; refine (sees_any x hr).mono ?_; rintro e w1 ⟨rfl, n, rfl⟩)
  go_ret
  exact ⟨rfl, (hr.drewN n).step hk, (Kp.drewN _ _ _).trans (Kp.setCell _ _ (by simp))⟩

/-- A byte that is taken, if it stands there. -/
theorem take_any {b : Nat} {src : ByteArray} {k g : Nat} (x : Int) {w : World} (hr : Rd w b src k g) :
    Calls Tryz.prog 116 #[.pointer (some ⟨b, 0, none⟩), .int .u8 x] w fun e w' => e = .returned (.bool (saw src k x)) ∧ Rd w' b src (if saw src k x then k + 1 else k) g ∧ Kp [b] w w' := by
  cases h : saw src k x
  · simpa using take_no x hr h
  · simpa using take_yes x hr h

set_option maxHeartbeats 400000 in
theorem expect_yes {b : Nat} {src : ByteArray} {k g : Nat} (x : Int) {w : World} (hr : Rd w b src k g) (h : saw src k x = true) :
    Calls Tryz.prog 110 #[.pointer (some ⟨b, 0, none⟩), .int .u8 x] w fun e w' => e = .returned (.tuple #[]) ∧ Rd w' b src (k + 1) g ∧ Kp [b] w w' := by
  go_enter Tryz.func110, Tryz.ntmps110
  go_wp2_with (go_at_call 116; refine (take_yes x hr h).mono ?_; rintro e w1 ⟨rfl, h1, h2⟩)
  go_end0
  exact ⟨rfl, h1, h2⟩
theorem ended_q {b : Nat} {src : ByteArray} {k g : Nat} {w : World} (hr : Rd w b src k g) (n : Nat) :
    Calls Tryz.prog 79 #[.pointer (some ⟨b, 0, none⟩)] (w.drewN n) fun e w'' => e = .returned (.bool ((k : Int) == (src.size : Int))) ∧ ∃ m, w'' = w.drewN m :=
  Calls.quiet_of (ended_any b src k _ (hr.drewN n).c0 (hr.drewN n).c1)

theorem sees_q {b : Nat} {src : ByteArray} {k g : Nat} (x : Int) {w : World} (hr : Rd w b src k g) {v : Bool} (h : saw src k x = v) (n : Nat) :
    Calls Tryz.prog 104 #[.pointer (some ⟨b, 0, none⟩), .int .u8 x] (w.drewN n) fun e w'' => e = .returned (.bool v) ∧ ∃ m, w'' = w.drewN m := by
  subst h
  exact Calls.quiet_of (sees_any x (hr.drewN n))

theorem ended_r {b : Nat} {src : ByteArray} {k g : Nat} {w : World} (hr : Rd w b src k g) {v : Bool} (h : ((k : Int) == (src.size : Int)) = v) :
    Calls Tryz.prog 79 #[.pointer (some ⟨b, 0, none⟩)] w fun e w' => e = .returned (.bool v) ∧ Rd w' b src k g ∧ Kp [b] w w' := by
  subst h
  exact (ended_any b src k w hr.c0 hr.c1).mono fun e w' ⟨he, n, hw⟩ => ⟨he, by rw [hw]; exact hr.drewN n, by rw [hw]; exact Kp.drewN _ _ _⟩

theorem sees_r {b : Nat} {src : ByteArray} {k g : Nat} (x : Int) {w : World} (hr : Rd w b src k g) {v : Bool} (h : saw src k x = v) :
    Calls Tryz.prog 104 #[.pointer (some ⟨b, 0, none⟩), .int .u8 x] w fun e w' => e = .returned (.bool v) ∧ Rd w' b src k g ∧ Kp [b] w w' := by
  subst h
  exact (sees_any x hr).mono fun e w' ⟨he, n, hw⟩ => ⟨he, by rw [hw]; exact hr.drewN n, by rw [hw]; exact Kp.drewN _ _ _⟩
end Go.Proofs.YtonnimbcekhbgaaGreatDoor
