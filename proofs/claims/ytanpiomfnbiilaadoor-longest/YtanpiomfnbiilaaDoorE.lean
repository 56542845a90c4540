/- A class of one item, and a pattern that is one class: contracts. -/
import Derived.Test.YtanpiomfnbiilaaDoorD
namespace Go.Proofs.YtanpiomfnbiilaaDoor
open Go.RowKit

abbrev zero4 : Obj := .cells #[.int .u64 0, .int .u64 0, .int .u64 0, .int .u64 0] 72
def noBytes : Nat → Bool := fun _ => false

theorem wd_none (i : Nat) : wd noBytes i = 0 := by
  refine (wd_ext (by simp) fun j _ => ?_).symm
  simp [noBytes]

theorem St_new (w : World) : St (w.alloc zero4) w.heap.size noBytes := by
  refine ⟨by simp, fun i hi => ?_, fun i => by simp⟩
  rw [wd_none]
  match i, hi with
  | 0, _ => simp
  | 1, _ => simp
  | 2, _ => simp
  | 3, _ => simp

/-- From place k to place l an item can be read, that says m. -/
def ItemOk (b : Nat) (src : ByteArray) (k l g : Nat) (m : Nat → Bool) : Prop :=
  ∀ (w : World) (s : Nat), Rd w b src k g → St w s noBytes → Nm w → b ≠ s →
    Calls Tryd.prog 51 #[.pointer (some ⟨b, 0, none⟩), .pointer (some ⟨s, 0, none⟩)] w fun e w' => e = .returned (.tuple #[]) ∧ Rd w' b src l g ∧ St w' s m ∧ Kp [s, b] w w'

set_option maxHeartbeats 1000000 in
theorem class_plain {b : Nat} {src : ByteArray} {k l g : Nat} {m : Nat → Bool} {w : World} (hr : Rd w b src k g) (hw : Nm w) (hb0 : b ≠ 0) (h94 : saw src k 94 = false)
    (hi : ItemOk b src k l g m) (h93 : saw src l 93 = true) :
    Calls Tryd.prog 45 #[.pointer (some ⟨b, 0, none⟩)] w fun e w' => e = .returned (setV m) ∧ Rd w' b src (l + 1) g ∧ Kp [b] w w' := by
  have hlt := hr.lt
  have q0 := Kp.alloc [b] w zero4
  have r0 := hr.keep (Kp.alloc [] w zero4) (by simp)
  have q0z : (w.alloc zero4).heap.size = w.heap.size + 1 := by simp
  go_enter Tryd.func45, Tryd.ntmps45
  go_wp2_with fail
  refine (take_no 94 r0 h94).mono ?_
  rintro e w1 ⟨rfl, r1, k1⟩
  have hz1 := k1.size
  rw [q0z] at hz1
  have r2 := r1.keep (Kp.alloc [] w1 zero4) (by simp)
  have q2 := Kp.alloc [b] w1 zero4
  go_wp2_with fail
  refine (hi _ w1.heap.size r2 (St_new w1) ?_ (by have := r1.lt; omega)).mono ?_
  · exact ((hw.keep q0 (by simpa using Ne.symm hb0)).keep k1 (by simpa using Ne.symm hb0)).keep q2 (by simpa using Ne.symm hb0)
  rintro e w2 ⟨rfl, r3, s3, k3⟩
  go_wp2_with fail
  refine wp_loop_rounds 1 ?_
  rw [rounds_succ]
  go_wp2_with fail
  refine (take_yes 93 r3 h93).mono ?_
  rintro e w3 ⟨rfl, r4, k4⟩
  have hne : w1.heap.size ≠ b := by have := r1.lt; omega
  have s4 := s3.keep k4 (by simpa using hne)
  have z1 := (St_new w).keep k1 (by simp; omega)
  have z2 := ((z1.keep q2 (by simp; omega)).keep k3 (by simp; omega)).keep k4 (by simp; omega)
  have a0 := s4.cell 0 (by omega)
  have a1 := s4.cell 1 (by omega)
  have a2 := s4.cell 2 (by omega)
  have a3 := s4.cell 3 (by omega)
  have d0 := z2.cell 0 (by omega)
  have d1 := z2.cell 1 (by omega)
  have d2 := z2.cell 2 (by omega)
  have d3 := z2.cell 3 (by omega)
  have f0 := z2.free 0
  have f1 := z2.free 1
  have f2 := z2.free 2
  have f3 := z2.free 3
  go_wp2_with fail
  have K3 : Kp [b] w w3 := Kp.own (x := w1.heap.size) ((q0.mono (by simp)).trans ((k1.mono (by simp)).trans ((q2.mono (by simp)).trans (k3.trans (k4.mono (by simp)))))) (by omega)
  refine bodyPost_ret (v := setV m) (by simp [results, Tryd.results45, go_sem, d0, d1, d2, d3]) rfl ⟨rfl, ?_, ?_⟩
  · exact (((r4.keep (Kp.setCell (S := [w.heap.size]) _ _ (by simp)) (by simp; omega)).keep (Kp.setCell (S := [w.heap.size]) _ _ (by simp)) (by simp; omega)).keep (Kp.setCell (S := [w.heap.size]) _ _ (by simp)) (by simp; omega)).keep (Kp.setCell (S := [w.heap.size]) _ _ (by simp)) (by simp; omega)
  · exact Kp.own (x := w.heap.size) (((((K3.mono (by simp)).trans (Kp.setCell _ _ (by simp))).trans (Kp.setCell _ _ (by simp))).trans (Kp.setCell _ _ (by simp))).trans (Kp.setCell _ _ (by simp))) (Nat.le_refl _)

set_option maxHeartbeats 1000000 in
theorem class_not {b : Nat} {src : ByteArray} {k l g : Nat} {m : Nat → Bool} {w : World} (hr : Rd w b src k g) (hw : Nm w) (hb0 : b ≠ 0) (h94 : saw src k 94 = true)
    (hi : ItemOk b src (k + 1) l g m) (h93 : saw src l 93 = true) :
    Calls Tryd.prog 45 #[.pointer (some ⟨b, 0, none⟩)] w fun e w' => e = .returned (setV fun x => !m x) ∧ Rd w' b src (l + 1) g ∧ Kp [b] w w' := by
  have hlt := hr.lt
  have q0 := Kp.alloc [b] w zero4
  have r0 := hr.keep (Kp.alloc [] w zero4) (by simp)
  have q0z : (w.alloc zero4).heap.size = w.heap.size + 1 := by simp
  go_enter Tryd.func45, Tryd.ntmps45
  go_wp2_with fail
  refine (take_yes 94 r0 h94).mono ?_
  rintro e w1 ⟨rfl, r1, k1⟩
  have hz1 := k1.size
  rw [q0z] at hz1
  have r2 := r1.keep (Kp.alloc [] w1 zero4) (by simp)
  have q2 := Kp.alloc [b] w1 zero4
  go_wp2_with fail
  refine (hi _ w1.heap.size r2 (St_new w1) ?_ (by have := r1.lt; omega)).mono ?_
  · exact ((hw.keep q0 (by simpa using Ne.symm hb0)).keep k1 (by simpa using Ne.symm hb0)).keep q2 (by simpa using Ne.symm hb0)
  rintro e w2 ⟨rfl, r3, s3, k3⟩
  go_wp2_with fail
  refine wp_loop_rounds 1 ?_
  rw [rounds_succ]
  go_wp2_with fail
  refine (take_yes 93 r3 h93).mono ?_
  rintro e w3 ⟨rfl, r4, k4⟩
  have hne : w1.heap.size ≠ b := by have := r1.lt; omega
  have s4 := s3.keep k4 (by simpa using hne)
  have z1 := (St_new w).keep k1 (by simp; omega)
  have z2 := ((z1.keep q2 (by simp; omega)).keep k3 (by simp; omega)).keep k4 (by simp; omega)
  have K3 : Kp [b] w w3 := Kp.own (x := w1.heap.size) ((q0.mono (by simp)).trans ((k1.mono (by simp)).trans ((q2.mono (by simp)).trans (k3.trans (k4.mono (by simp)))))) (by omega)
  have a0 := s4.cell 0 (by omega)
  have a1 := s4.cell 1 (by omega)
  have a2 := s4.cell 2 (by omega)
  have a3 := s4.cell 3 (by omega)
  go_wp2_with fail
  refine (others_any m _).mono ?_
  rintro e w4 ⟨rfl, k5⟩
  have z3 := z2.keep k5 (by simp)
  have r5 := r4.keep k5 (by simp)
  have d0 := z3.cell 0 (by omega)
  have d1 := z3.cell 1 (by omega)
  have d2 := z3.cell 2 (by omega)
  have d3 := z3.cell 3 (by omega)
  have f0 := z3.free 0
  have f1 := z3.free 1
  have f2 := z3.free 2
  have f3 := z3.free 3
  clear a0 a1 a2 a3
  have K4 := K3.trans (k5.mono (T := [b]) (by simp))
  go_wp2_with fail
  refine bodyPost_ret (v := setV fun x => !m x) (by simp [results, Tryd.results45, go_sem, d0, d1, d2, d3]) rfl ⟨rfl, ?_, ?_⟩
  · exact (((r5.keep (Kp.setCell (S := [w.heap.size]) _ _ (by simp)) (by simp; omega)).keep (Kp.setCell (S := [w.heap.size]) _ _ (by simp)) (by simp; omega)).keep (Kp.setCell (S := [w.heap.size]) _ _ (by simp)) (by simp; omega)).keep (Kp.setCell (S := [w.heap.size]) _ _ (by simp)) (by simp; omega)
  · exact Kp.own (x := w.heap.size) (((((K4.mono (by simp)).trans (Kp.setCell _ _ (by simp))).trans (Kp.setCell _ _ (by simp))).trans (Kp.setCell _ _ (by simp))).trans (Kp.setCell _ _ (by simp))) (Nat.le_refl _)
end Go.Proofs.YtanpiomfnbiilaaDoor
