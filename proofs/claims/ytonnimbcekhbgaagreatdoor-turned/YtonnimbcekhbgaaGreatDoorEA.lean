/- The script's reader: its cursor. -/
import Derived.Test.YtonnimbcekhbgaaGreatDoorA
namespace Go.Proofs.YtonnimbcekhbgaaGreatDoor
open Go.RowKit

/-- A cursor at place k of its source. -/
structure Cur (w : World) (b : Nat) (src : ByteArray) (k : Nat) : Prop where
  lt : b < w.heap.size
  le : k ≤ src.size
  small : src.size ≤ 2000
  c0 : w.cell? ⟨b, 0, none⟩ = some (.string src)
  c1 : w.cell? ⟨b, 1, none⟩ = some (.int .i64 k)
  free : ∀ i, w.frozen? ⟨b, i, none⟩ = false

section
variable {w w' : World} {b k : Nat} {src : ByteArray}
theorem Cur.keep {S : List Nat} (h : Cur w b src k) (q : Kp S w w') (hn : b ∉ S) : Cur w' b src k :=
  ⟨Nat.lt_of_lt_of_le h.lt q.size, h.le, h.small, by rw [q.cell h.lt hn]; exact h.c0, by rw [q.cell h.lt hn]; exact h.c1, fun i => by rw [q.frozen h.lt hn]; exact h.free i⟩
theorem Cur.drewN (h : Cur w b src k) (n : Nat) : Cur (w.drewN n) b src k := h.keep (Kp.drewN [] w n) (by simp)
theorem Cur.drew (h : Cur w b src k) : Cur w.drew b src k := h.keep (Kp.drew [] w) (by simp)
theorem Cur.step (h : Cur w b src k) (hk : k < src.size) : Cur (w.setCell ⟨b, 1, none⟩ (.int .i64 ((k : Int) + 1))) b src (k + 1) := by
  refine ⟨by simpa [World.setCell] using h.lt, by omega, h.small, ?_, ?_, fun i => by simpa using h.free i⟩
  · rw [cell_other _ (by simp)]; exact h.c0
  · rw [cell_same _ h.c1]; simp

/-- Nothing changed but where the cursor looks. -/
structure Mv (b : Nat) (w w' : World) : Prop where
  kp : Kp [b] w w'
  same : ∀ j, j ≠ 1 → w'.cell? ⟨b, j, none⟩ = w.cell? ⟨b, j, none⟩
theorem Mv.refl (b : Nat) (w : World) : Mv b w w := ⟨Kp.refl _ _, fun _ _ => rfl⟩
theorem Mv.trans {u : World} (h : Mv b w w') (h2 : Mv b w' u) : Mv b w u := ⟨h.kp.trans h2.kp, fun j hj => (h2.same j hj).trans (h.same j hj)⟩
theorem Mv.drewN (b : Nat) (w : World) (n : Nat) : Mv b w (w.drewN n) := ⟨Kp.drewN _ _ _, fun _ _ => by simp⟩
theorem Mv.drew (b : Nat) (w : World) : Mv b w w.drew := ⟨Kp.drew _ _, fun _ _ => by simp⟩
theorem Mv.step (b : Nat) (w : World) (v : Value) : Mv b w (w.setCell ⟨b, 1, none⟩ v) :=
  ⟨Kp.setCell _ _ (by simp), fun j hj => cell_other _ (fun e => by injection e with _ e2 _; exact hj e2.symm)⟩

def curAt (w : World) (b : Nat) : Nat := (intOf ((w.cell? ⟨b, 1, none⟩).getD undef)).toNat
theorem curAt_of (h : Cur w b src k) : curAt w b = k := by simp [curAt, h.c1, intOf]

theorem ended_c (hr : Cur w b src k) (n : Nat) :
    Calls Tryz.prog 79 #[.pointer (some ⟨b, 0, none⟩)] (w.drewN n) fun e w'' => e = .returned (.bool ((k : Int) == (src.size : Int))) ∧ ∃ m, w'' = w.drewN m :=
  Calls.quiet_of (ended_any b src k _ (hr.drewN n).c0 (hr.drewN n).c1)
theorem ended_v (hr : Cur w b src k) {v : Bool} (h : ((k : Int) == (src.size : Int)) = v) :
    Calls Tryz.prog 79 #[.pointer (some ⟨b, 0, none⟩)] w fun e w' => e = .returned (.bool v) ∧ Cur w' b src k ∧ Mv b w w' := by
  subst h
  exact (ended_any b src k w hr.c0 hr.c1).mono fun e w' ⟨he, n, hw⟩ => ⟨he, by rw [hw]; exact hr.drewN n, by rw [hw]; exact Mv.drewN _ _ _⟩
theorem sees_c (x : Int) (hr : Cur w b src k) :
    Calls Tryz.prog 104 #[.pointer (some ⟨b, 0, none⟩), .int .u8 x] w fun e w' => e = .returned (.bool (saw src k x)) ∧ ∃ n, w' = w.drewN n := by
  by_cases hk : k < src.size
  · have := sees_in b src k x w hr.c0 hr.c1 hk
    simpa [saw, hk] using this
  · have := sees_end b src k x w hr.c0 hr.c1 (by have := hr.le; omega)
    simpa [saw, hk] using this
theorem sees_v (x : Int) (hr : Cur w b src k) {v : Bool} (h : saw src k x = v) :
    Calls Tryz.prog 104 #[.pointer (some ⟨b, 0, none⟩), .int .u8 x] w fun e w' => e = .returned (.bool v) ∧ Cur w' b src k ∧ Mv b w w' := by
  subst h
  exact (sees_c x hr).mono fun e w' ⟨he, n, hw⟩ => ⟨he, by rw [hw]; exact hr.drewN n, by rw [hw]; exact Mv.drewN _ _ _⟩

set_option maxHeartbeats 400000 in
theorem take_v (x : Int) (hr : Cur w b src k) {v : Bool} (h : saw src k x = v) :
    Calls Tryz.prog 116 #[.pointer (some ⟨b, 0, none⟩), .int .u8 x] w fun e w' => e = .returned (.bool v) ∧ Cur w' b src (if v then k + 1 else k) ∧ Mv b w w' := by
  cases v
  · have H : Hid _ := h
    go_enter Tryz.func116, Tryz.ntmps116
    go_wp2_with (go_at_call 104; refine (sees_v x hr h).mono ?_; rintro e w1 ⟨rfl, h1, m1⟩)
    go_ret
    exact ⟨rfl, h1, m1⟩
  · have hk := saw_lt h
    have hsm := hr.small
    go_enter Tryz.func116, Tryz.ntmps116
    go_wp2_with (go_at_call 104; refine (sees_v x hr h).mono ?_; rintro e w1 ⟨rfl, h1, m1⟩; have c1 := h1.c1; have f1 := h1.free 1)
    go_ret
    exact ⟨rfl, h1.step hk, m1.trans (Mv.step _ _ _)⟩

/-- A blank. -/
def isB (s : ByteArray) (k : Nat) : Bool := saw s k 32 || saw s k 9
theorem isB_lt {s : ByteArray} {k : Nat} (h : isB s k = true) : k < s.size := by
  unfold isB at h
  rcases Bool.or_eq_true_iff.1 h with q | q <;> exact saw_lt q

set_option maxHeartbeats 400000 in
theorem blank_v (hr : Cur w b src k) {v : Bool} (h : isB src k = v) :
    Calls Tryz.prog 117 #[.pointer (some ⟨b, 0, none⟩)] w fun e w' => e = .returned (.bool v) ∧ Cur w' b src (if v then k + 1 else k) ∧ Mv b w w' := by
  cases h32 : saw src k 32
  · cases h9 : saw src k 9
    · obtain rfl : v = false := by rw [← h]; simp [isB, h32, h9]
      go_enter Tryz.func117, Tryz.ntmps117
      go_wp2_with fail
      refine (take_v 32 hr h32).mono ?_
      rintro e w1 ⟨rfl, h1, m1⟩
      go_wp2_with fail
      refine (take_v 9 h1 h9).mono ?_
      rintro e w2 ⟨rfl, h2, m2⟩
      go_wp2_with fail
      go_ret
      exact ⟨rfl, h2, m1.trans m2⟩
    · obtain rfl : v = true := by rw [← h]; simp [isB, h32, h9]
      go_enter Tryz.func117, Tryz.ntmps117
      go_wp2_with fail
      refine (take_v 32 hr h32).mono ?_
      rintro e w1 ⟨rfl, h1, m1⟩
      go_wp2_with fail
      refine (take_v 9 h1 h9).mono ?_
      rintro e w2 ⟨rfl, h2, m2⟩
      go_wp2_with fail
      go_ret
      exact ⟨rfl, h2, m1.trans m2⟩
  · obtain rfl : v = true := by rw [← h]; simp [isB, h32]
    go_enter Tryz.func117, Tryz.ntmps117
    go_wp2_with fail
    refine (take_v 32 hr h32).mono ?_
    rintro e w1 ⟨rfl, h1, m1⟩
    go_wp2_with fail
    go_ret
    exact ⟨rfl, h1, m1⟩

/-- Behind the blanks. -/
def skB (s : ByteArray) : Nat → Nat → Nat
  | 0, k => k
  | n + 1, k => if isB s k then skB s n (k + 1) else k
def blk (s : ByteArray) (k : Nat) : Nat := skB s (s.size - k) k
theorem blk_no {s : ByteArray} {k : Nat} (h : isB s k = false) : blk s k = k := by
  unfold blk
  cases s.size - k <;> simp [skB, h]
theorem blk_yes {s : ByteArray} {k : Nat} (h : isB s k = true) : blk s k = blk s (k + 1) := by
  have hk := isB_lt h
  unfold blk
  rw [show s.size - k = (s.size - (k + 1)) + 1 by omega]
  simp [skB, h]

set_option maxHeartbeats 400000 in
theorem blanks_v (hr : Cur w b src k) :
    Calls Tryz.prog 102 #[.pointer (some ⟨b, 0, none⟩)] w fun e w' => e = .returned (.tuple #[]) ∧ Cur w' b src (blk src k) ∧ Mv b w w' := by
  go_enter Tryz.func102, Tryz.ntmps102
  go_wp2
  go_loopw [2] (fun _ wr => ∃ a : Nat, Cur wr b src a ∧ Mv b w wr ∧ Hid (blk src a = blk src k)) (fun _ wr => 3000 - curAt wr b)
  case atStart => exact ⟨k, hr, Mv.refl _ _, hid rfl⟩
  case round =>
    obtain ⟨a, hrr, hmv, HB⟩ := hrel
    have HAT := hid (curAt_of hrr)
    cases hb : isB src a
    · go_wp2_with fail
      refine (blank_v hrr hb).mono ?_
      rintro e w1 ⟨rfl, h1, m1⟩
      go_wp2_with fail
      go_end0
      refine ⟨rfl, ?_, hmv.trans m1⟩
      rw [← HB.out, blk_no hb]
      exact h1
    · have hlt := isB_lt hb
      have hsm := hr.small
      go_wp2_with fail
      refine (blank_v hrr hb).mono ?_
      rintro e w1 ⟨rfl, h1, m1⟩
      go_wp2_with fail
      go_round
      case rel => exact ⟨a + 1, h1, hmv.trans m1, hid (by rw [← blk_yes hb]; exact HB.out)⟩
      case measure => rw [curAt_of (by simpa using h1), HAT.out]; omega
end
end Go.Proofs.YtonnimbcekhbgaaGreatDoor
