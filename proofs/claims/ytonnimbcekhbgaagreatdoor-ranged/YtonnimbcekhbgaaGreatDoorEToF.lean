/- One text out of several: E F. -/
import Derived.Test.YtonnimbcekhbgaaGreatDoorD

/- A class of one item, and a pattern that is one class: contracts. -/
namespace Go.Proofs.YtonnimbcekhbgaaGreatDoor
open Go.RowKit

abbrev zero4 : Obj := .cells #[.int .u64 0, .int .u64 0, .int .u64 0, .int .u64 0] 183
def noBytes : Nat → Bool := fun _ => false

theorem wd_none (i : Nat) : wd noBytes i = 0 := by
  refine (wd_ext (by simp) fun j _ => ?_).symm
  simp [noBytes]

theorem St_new (w : World) : St (w.alloc zero4) w.heap.size noBytes := by
  refine ⟨by simp, fun i hi => ?_, fun i => by simp⟩
  rw [wd_none]
  match i, hi with
  | 0, _ => simp
  | 1, _ => simp
  | 2, _ => simp
  | 3, _ => simp

/-- From place k to place l an item can be read, that says m. -/
def ItemOk (b : Nat) (src : ByteArray) (k l g : Nat) (m : Nat → Bool) : Prop :=
  ∀ (w : World) (s : Nat), Rd w b src k g → St w s noBytes → Nm w → b ≠ s →
    Calls Tryz.prog 181 #[.pointer (some ⟨b, 0, none⟩), .pointer (some ⟨s, 0, none⟩)] w fun e w' => e = .returned (.tuple #[]) ∧ Rd w' b src l g ∧ St w' s m ∧ Kp [s, b] w w'

set_option maxHeartbeats 1000000 in
theorem class_plain {b : Nat} {src : ByteArray} {k l g : Nat} {m : Nat → Bool} {w : World} (hr : Rd w b src k g) (hw : Nm w) (hb0 : b ≠ 0) (h94 : saw src k 94 = false)
    (hi : ItemOk b src k l g m) (h93 : saw src l 93 = true) :
    Calls Tryz.prog 176 #[.pointer (some ⟨b, 0, none⟩)] w fun e w' => e = .returned (setV m) ∧ Rd w' b src (l + 1) g ∧ Kp [b] w w' := by
  have hlt := hr.lt
  have q0 := Kp.alloc [b] w zero4
  have r0 := hr.keep (Kp.alloc [] w zero4) (by simp)
  have q0z : (w.alloc zero4).heap.size = w.heap.size + 1 := by simp
  go_enter Tryz.func176, Tryz.ntmps176
  go_wp2_with fail
  refine (take_no 94 r0 h94).mono ?_
  rintro e w1 ⟨rfl, r1, k1⟩
  have hz1 := k1.size
  rw [q0z] at hz1
  have r2 := r1.keep (Kp.alloc [] w1 zero4) (by simp)
  have q2 := Kp.alloc [b] w1 zero4
  go_wp2_with fail
  refine (hi _ w1.heap.size r2 (St_new w1) ?_ (by have := r1.lt; omega)).mono ?_
  · exact ((hw.keep q0 (by simpa using Ne.symm hb0)).keep k1 (by simpa using Ne.symm hb0)).keep q2 (by simpa using Ne.symm hb0)
  rintro e w2 ⟨rfl, r3, s3, k3⟩
  go_wp2_with fail
  refine wp_loop_rounds 1 ?_
  rw [rounds_succ]
  go_wp2_with fail
  refine (take_yes 93 r3 h93).mono ?_
  rintro e w3 ⟨rfl, r4, k4⟩
  have hne : w1.heap.size ≠ b := by have := r1.lt; omega
  have s4 := s3.keep k4 (by simpa using hne)
  have z1 := (St_new w).keep k1 (by simp; omega)
  have z2 := ((z1.keep q2 (by simp; omega)).keep k3 (by simp; omega)).keep k4 (by simp; omega)
  have a0 := s4.cell 0 (by omega)
  have a1 := s4.cell 1 (by omega)
  have a2 := s4.cell 2 (by omega)
  have a3 := s4.cell 3 (by omega)
  have d0 := z2.cell 0 (by omega)
  have d1 := z2.cell 1 (by omega)
  have d2 := z2.cell 2 (by omega)
  have d3 := z2.cell 3 (by omega)
  have f0 := z2.free 0
  have f1 := z2.free 1
  have f2 := z2.free 2
  have f3 := z2.free 3
  go_wp2_with fail
  have K3 : Kp [b] w w3 := Kp.own (x := w1.heap.size) ((q0.mono (by simp)).trans ((k1.mono (by simp)).trans ((q2.mono (by simp)).trans (k3.trans (k4.mono (by simp)))))) (by omega)
  refine bodyPost_ret (v := setV m) (by simp [results, Tryz.results176, go_sem, d0, d1, d2, d3]) rfl ⟨rfl, ?_, ?_⟩
  · exact (((r4.keep (Kp.setCell (S := [w.heap.size]) _ _ (by simp)) (by simp; omega)).keep (Kp.setCell (S := [w.heap.size]) _ _ (by simp)) (by simp; omega)).keep (Kp.setCell (S := [w.heap.size]) _ _ (by simp)) (by simp; omega)).keep (Kp.setCell (S := [w.heap.size]) _ _ (by simp)) (by simp; omega)
  · exact Kp.own (x := w.heap.size) (((((K3.mono (by simp)).trans (Kp.setCell _ _ (by simp))).trans (Kp.setCell _ _ (by simp))).trans (Kp.setCell _ _ (by simp))).trans (Kp.setCell _ _ (by simp))) (Nat.le_refl _)

set_option maxHeartbeats 1000000 in
theorem class_not {b : Nat} {src : ByteArray} {k l g : Nat} {m : Nat → Bool} {w : World} (hr : Rd w b src k g) (hw : Nm w) (hb0 : b ≠ 0) (h94 : saw src k 94 = true)
    (hi : ItemOk b src (k + 1) l g m) (h93 : saw src l 93 = true) :
    Calls Tryz.prog 176 #[.pointer (some ⟨b, 0, none⟩)] w fun e w' => e = .returned (setV fun x => !m x) ∧ Rd w' b src (l + 1) g ∧ Kp [b] w w' := by
  have hlt := hr.lt
  have q0 := Kp.alloc [b] w zero4
  have r0 := hr.keep (Kp.alloc [] w zero4) (by simp)
  have q0z : (w.alloc zero4).heap.size = w.heap.size + 1 := by simp
  go_enter Tryz.func176, Tryz.ntmps176
  go_wp2_with fail
  refine (take_yes 94 r0 h94).mono ?_
  rintro e w1 ⟨rfl, r1, k1⟩
  have hz1 := k1.size
  rw [q0z] at hz1
  have r2 := r1.keep (Kp.alloc [] w1 zero4) (by simp)
  have q2 := Kp.alloc [b] w1 zero4
  go_wp2_with fail
  refine (hi _ w1.heap.size r2 (St_new w1) ?_ (by have := r1.lt; omega)).mono ?_
  · exact ((hw.keep q0 (by simpa using Ne.symm hb0)).keep k1 (by simpa using Ne.symm hb0)).keep q2 (by simpa using Ne.symm hb0)
  rintro e w2 ⟨rfl, r3, s3, k3⟩
  go_wp2_with fail
  refine wp_loop_rounds 1 ?_
  rw [rounds_succ]
  go_wp2_with fail
  refine (take_yes 93 r3 h93).mono ?_
  rintro e w3 ⟨rfl, r4, k4⟩
  have hne : w1.heap.size ≠ b := by have := r1.lt; omega
  have s4 := s3.keep k4 (by simpa using hne)
  have z1 := (St_new w).keep k1 (by simp; omega)
  have z2 := ((z1.keep q2 (by simp; omega)).keep k3 (by simp; omega)).keep k4 (by simp; omega)
  have K3 : Kp [b] w w3 := Kp.own (x := w1.heap.size) ((q0.mono (by simp)).trans ((k1.mono (by simp)).trans ((q2.mono (by simp)).trans (k3.trans (k4.mono (by simp)))))) (by omega)
  have a0 := s4.cell 0 (by omega)
  have a1 := s4.cell 1 (by omega)
  have a2 := s4.cell 2 (by omega)
  have a3 := s4.cell 3 (by omega)
  go_wp2_with fail
  refine (others_any m _).mono ?_
  rintro e w4 ⟨rfl, k5⟩
  have z3 := z2.keep k5 (by simp)
  have r5 := r4.keep k5 (by simp)
  have d0 := z3.cell 0 (by omega)
  have d1 := z3.cell 1 (by omega)
  have d2 := z3.cell 2 (by omega)
  have d3 := z3.cell 3 (by omega)
  have f0 := z3.free 0
  have f1 := z3.free 1
  have f2 := z3.free 2
  have f3 := z3.free 3
  clear a0 a1 a2 a3
  have K4 := K3.trans (k5.mono (T := [b]) (by simp))
  go_wp2_with fail
  refine bodyPost_ret (v := setV fun x => !m x) (by simp [results, Tryz.results176, go_sem, d0, d1, d2, d3]) rfl ⟨rfl, ?_, ?_⟩
  · exact (((r5.keep (Kp.setCell (S := [w.heap.size]) _ _ (by simp)) (by simp; omega)).keep (Kp.setCell (S := [w.heap.size]) _ _ (by simp)) (by simp; omega)).keep (Kp.setCell (S := [w.heap.size]) _ _ (by simp)) (by simp; omega)).keep (Kp.setCell (S := [w.heap.size]) _ _ (by simp)) (by simp; omega)
  · exact Kp.own (x := w.heap.size) (((((K4.mono (by simp)).trans (Kp.setCell _ _ (by simp))).trans (Kp.setCell _ _ (by simp))).trans (Kp.setCell _ _ (by simp))).trans (Kp.setCell _ _ (by simp))) (Nat.le_refl _)
end Go.Proofs.YtonnimbcekhbgaaGreatDoor

/- A pattern that is one class, from its atom to the whole: contracts. -/
namespace Go.Proofs.YtonnimbcekhbgaaGreatDoor
open Go.RowKit

/-- The class at place k can be read, up to place l; it says m. -/
def ClassOk (b : Nat) (src : ByteArray) (k l g : Nat) (m : Nat → Bool) : Prop :=
  ∀ w : World, Rd w b src k g → Nm w →
    Calls Tryz.prog 176 #[.pointer (some ⟨b, 0, none⟩)] w fun e w' => e = .returned (setV m) ∧ Rd w' b src l g ∧ Kp [b] w w'

abbrev oneV (m : Nat → Bool) : Value := .iface 225 (setV m)

set_option maxHeartbeats 400000 in
theorem atom_class {b : Nat} {src : ByteArray} {k l g : Nat} {m : Nat → Bool} {w : World} (hr : Rd w b src k g) (hw : Nm w) (hb0 : b ≠ 0)
    (h40 : saw src k 40 = false) (h46 : saw src k 46 = false) (h91 : saw src k 91 = true) (hc : ClassOk b src (k + 1) l g m) :
    Calls Tryz.prog 172 #[.pointer (some ⟨b, 0, none⟩)] w fun e w' => e = .returned (oneV m) ∧ Rd w' b src l g ∧ Kp [b] w w' := by
  have hb0' : 0 ∉ [b] := by simpa using Ne.symm hb0
  have HB : Hid _ := hb0'
  clear hb0'
  go_enter Tryz.func172, Tryz.ntmps172
  go_wp2_with fail
  refine (sees_any 40 hr).mono ?_
  rw [h40]
  rintro e w1 ⟨rfl, n, rfl⟩
  go_wp2_with fail
  refine (take_no 46 (hr.drewN n) h46).mono ?_
  rintro e w2 ⟨rfl, r2, k2⟩
  go_wp2_with fail
  refine (take_yes 91 r2 h91).mono ?_
  rintro e w3 ⟨rfl, r3, k3⟩
  go_wp2_with fail
  refine (hc _ r3 (((hw.keep (Kp.drewN [b] _ n) HB.out).keep k2 HB.out).keep k3 HB.out)).mono ?_
  rintro e w4 ⟨rfl, r4, k4⟩
  go_wp2_with fail
  go_ret
  exact ⟨rfl, r4, (Kp.drewN _ _ n).trans (k2.trans (k3.trans k4))⟩

set_option maxHeartbeats 400000 in
theorem repeated_no {b : Nat} {src : ByteArray} {k g : Nat} (v : Value) {w : World} (hr : Rd w b src k g)
    (h1 : saw src k 42 = false) (h2 : saw src k 43 = false) (h3 : saw src k 63 = false) (h4 : saw src k 123 = false) :
    Calls Tryz.prog 171 #[.pointer (some ⟨b, 0, none⟩), v] w fun e w' => e = .returned v ∧ Rd w' b src k g ∧ Kp [b] w w' := by
  go_enter Tryz.func171, Tryz.ntmps171
  go_wp2_with fail
  refine (take_no 42 hr h1).mono ?_
  rintro e w1 ⟨rfl, r1, k1⟩
  go_wp2_with fail
  refine (take_no 43 r1 h2).mono ?_
  rintro e w2 ⟨rfl, r2, k2⟩
  go_wp2_with fail
  refine (take_no 63 r2 h3).mono ?_
  rintro e w3 ⟨rfl, r3, k3⟩
  go_wp2_with fail
  refine (take_no 123 r3 h4).mono ?_
  rintro e w4 ⟨rfl, r4, k4⟩
  go_wp2_with fail
  go_ret
  exact ⟨rfl, r4, k1.trans (k2.trans (k3.trans k4))⟩

set_option maxHeartbeats 400000 in
theorem piece_class {b : Nat} {src : ByteArray} {k l g : Nat} {m : Nat → Bool} {w : World} (hr : Rd w b src k g) (hw : Nm w) (hb0 : b ≠ 0)
    (h94 : saw src k 94 = false) (h36 : saw src k 36 = false) (h40 : saw src k 40 = false) (h46 : saw src k 46 = false) (h91 : saw src k 91 = true) (hc : ClassOk b src (k + 1) l g m)
    (h1 : saw src l 42 = false) (h2 : saw src l 43 = false) (h3 : saw src l 63 = false) (h4 : saw src l 123 = false) :
    Calls Tryz.prog 169 #[.pointer (some ⟨b, 0, none⟩)] w fun e w' => e = .returned (oneV m) ∧ Rd w' b src l g ∧ Kp [b] w w' := by
  have hb0' : 0 ∉ [b] := by simpa using Ne.symm hb0
  have HB : Hid _ := hb0'
  clear hb0'
  go_enter Tryz.func169, Tryz.ntmps169
  go_wp2_with fail
  refine (take_no 94 hr h94).mono ?_
  rintro e w1 ⟨rfl, r1, k1⟩
  go_wp2_with fail
  refine (take_no 36 r1 h36).mono ?_
  rintro e w2 ⟨rfl, r2, k2⟩
  go_wp2_with fail
  refine (atom_class r2 ((hw.keep k1 HB.out).keep k2 HB.out) hb0 h40 h46 h91 hc).mono ?_
  rintro e w3 ⟨rfl, r3, k3⟩
  go_wp2_with fail
  refine (repeated_no _ r3 h1 h2 h3 h4).mono ?_
  rintro e w4 ⟨rfl, r4, k4⟩
  go_wp2_with fail
  go_ret
  exact ⟨rfl, r4, k1.trans (k2.trans (k3.trans k4))⟩

/-- The piece at place k can be read, up to place l: it is v. -/
def PieceOk (b : Nat) (src : ByteArray) (k l g : Nat) (v : Value) : Prop :=
  ∀ w : World, Rd w b src k g → Nm w →
    Calls Tryz.prog 169 #[.pointer (some ⟨b, 0, none⟩)] w fun e w' => e = .returned v ∧ Rd w' b src l g ∧ Kp [b] w w'

theorem Tryz.infoNode : (Tryz.prog.info? 173).map (fun i => (i.zero, i.size, i.bytes)) = some (some .nilIface, 1, 16) := by kernel_rfl

set_option maxRecDepth 100000 in
set_option maxHeartbeats 400000 in
theorem branch_one {b : Nat} {src : ByteArray} {k l g : Nat} {tv : TypeId} {xv : Value} {w : World} (hr : Rd w b src k g) (hw : Nm w) (hb0 : b ≠ 0) (hk : k < src.size)
    (h124 : saw src k 124 = false) (h41 : saw src k 41 = false) (hp : PieceOk b src k l g (.iface tv xv)) (hl : l = src.size) :
    Calls Tryz.prog 164 #[.pointer (some ⟨b, 0, none⟩)] w fun e w' => ∃ (r c : Nat), e = .returned (.iface 211 (.slice (some ⟨r, 0, none⟩) 1 c)) ∧ w.heap.size ≤ r ∧ r < w'.heap.size ∧ w'.cell? ⟨r, 0, none⟩ = some (.iface tv xv) ∧ Rd w' b src l g ∧ Kp [b] w w' := by
  have hb0' : 0 ∉ [b] := by simpa using Ne.symm hb0
  have HB : Hid _ := hb0'
  have he1 : ((k : Int) == (src.size : Int)) = false := by simp; omega
  have he2 : ((l : Int) == (src.size : Int)) = true := by simp; omega
  have HL : Hid _ := hl
  clear hb0' hl
  obtain ⟨i0, hi, hz0, hz1, hz2⟩ := info_parts Tryz.infoNode
  go_enter Tryz.func164, Tryz.ntmps164
  go_wp2_with fail
  refine wp_loop_rounds 2 ?_
  rw [rounds_succ]
  go_wp2_with fail
  refine (ended_r hr he1).mono ?_
  rintro e w1 ⟨rfl, r1, k1⟩
  go_wp2_with fail
  refine (sees_r 124 r1 h124).mono ?_
  rintro e w2 ⟨rfl, r2, k2⟩
  go_wp2_with fail
  refine (sees_r 41 r2 h41).mono ?_
  rintro e w3 ⟨rfl, r3, k3⟩
  have k3 : Kp [b] w w3 := k1.trans (k2.trans k3)
  have hz3 := k3.size
  have hw3 := hw.keep k3 HB.out
  clear r1 r2
  go_wp2_with fail
  refine (hp _ r3 hw3).mono ?_
  rintro e w4 ⟨rfl, r4, k4⟩
  have hz4 := k4.size
  clear r3 hp hw3
  go_wp2_with (at_builtin; refine wpList_append_own _ rfl _ _ 211 rfl w4.heap.size 173 i0 .nilIface 1 16 Tryz.underlying211 hi hz0 hz1 hz2 rfl (by decide) _ _ _ rfl (World.ownsRow_nil _ _ _ _) ⟨w4.heap.size, 0, none⟩ 1 1 [.iface tv xv] rfl rfl ?c1 ?c2 ?c3 ?c4 ?c5 ?_)
  case c1 => exact cell_one_new _ _ _
  case c2 => intro u hu; simp at hu; subst hu; rfl
  case c3 => unfold maxLen; omega
  case c4 => omega
  case c5 => simp
  intro v' w5 hown hgrow _
  have hex : ∃ r c, v' = .slice (some ⟨r, 0, none⟩) 1 c ∧ w4.heap.size ≤ r ∧ r < w5.heap.size ∧ w5.cell? ⟨r, 0, none⟩ = some (.iface tv xv) := by
    rcases hown.2 with ⟨_, h0⟩ | ⟨r, c, cur, e1, e2, e3, _⟩
    · simp at h0
    · refine ⟨r, c, e1, e2, lt_of_block e3, ?_⟩
      have := World.ownsRow.cellAt (by rw [e1] at hown; exact hown) 0 (by simp)
      simpa using this
  obtain ⟨r, c, hv', hr1, hr2, hr3⟩ := hex
  have k5 : Kp [] w4 w5 := (Kp.alloc _ _ _).trans ⟨hgrow.os, hgrow.tape, hgrow.output, hgrow.size, fun q hq _ => hgrow.block q hq (by simp [Value.ownBlock])⟩
  have r5 := r4.keep k5 (by simp)
  rw [hv']
  clear hown hgrow hv'
  go_wp2_with fail
  rw [rounds_succ]
  go_wp2_with fail
  refine (ended_r r5 he2).mono ?_
  rintro e w6 ⟨rfl, r6, k6⟩
  have hrb : r ≠ b := by have := r4.lt; omega
  have hr3' := (k6.cell (p := ⟨r, 0, none⟩) hr2 (by simpa using hrb)).trans hr3
  have hz6 := k6.size
  go_wp2_with fail
  go_ret
  exact ⟨r, c, rfl, by omega, by omega, hr3', r6, k3.trans (k4.trans ((k5.mono (by simp)).trans k6))⟩

set_option maxRecDepth 100000 in
set_option maxHeartbeats 400000 in
/-- One branch that is one piece. -/
theorem branches_one {b : Nat} {src : ByteArray} {k l g : Nat} {tv : TypeId} {xv : Value} {w : World} (hr : Rd w b src k g) (hw : Nm w) (hb0 : b ≠ 0) (hk : k < src.size)
    (h124 : saw src k 124 = false) (h41 : saw src k 41 = false) (hp : PieceOk b src k l g (.iface tv xv)) (hl : l = src.size) :
    Calls Tryz.prog 156 #[.pointer (some ⟨b, 0, none⟩)] w fun e w' => ∃ (q r c : Nat), e = .returned (.iface 207 (.slice (some ⟨q, 0, none⟩) 1 1)) ∧ w.heap.size ≤ q ∧ q < w'.heap.size ∧ w'.cell? ⟨q, 0, none⟩ = some (.iface 211 (.slice (some ⟨r, 0, none⟩) 1 c)) ∧
      w.heap.size ≤ r ∧ r < w'.heap.size ∧ w'.cell? ⟨r, 0, none⟩ = some (.iface tv xv) ∧ Rd w' b src l g ∧ Kp [b] w w' := by
  have hs124 : saw src l 124 = false := by unfold saw; rw [dif_neg (by omega)]
  have hbl0 := hr.lt
  go_enter Tryz.func156, Tryz.ntmps156
  go_wp2_with fail
  refine (branch_one hr hw hb0 hk h124 h41 hp hl).mono ?_
  rintro e w1 ⟨r, c, rfl, hr1, hr2, hr3, r1, k1⟩
  have hz1 := k1.size
  have hbl := r1.lt
  have HL : Hid _ := hl
  clear hl hp
  go_wp2_with fail
  obtain ⟨o, ho⟩ : ∃ o : Obj, o = .cells #[.iface 211 (.slice (some ⟨r, 0, none⟩) 1 c)] 173 := ⟨_, rfl⟩
  have k2 := Kp.alloc [b] w1 o
  have r2 := r1.keep (Kp.alloc [] w1 o) (by simp)
  have hc : (w1.alloc o).cell? ⟨w1.heap.size, 0, none⟩ = some (.iface 211 (.slice (some ⟨r, 0, none⟩) 1 c)) := by rw [ho]; simp
  have hz2 : (w1.alloc o).heap.size = w1.heap.size + 1 := by simp
  have hc3 := (k2.cell (p := ⟨r, 0, none⟩) hr2 (by simp; omega)).trans hr3
  rw [← ho]
  generalize w1.alloc o = w2 at *
  clear ho hr3
  refine wp_loop_rounds 1 ?_
  rw [rounds_succ]
  go_wp2_with fail
  refine (take_no 124 r2 hs124).mono ?_
  rintro e w3 ⟨rfl, r3, k3⟩
  have h1 := (k3.cell (p := ⟨w1.heap.size, 0, none⟩) (by rw [hz2]; exact Nat.lt_succ_self _) (by simp; omega)).trans hc
  have h2 := (k3.cell (p := ⟨r, 0, none⟩) (by rw [hz2]; exact Nat.lt_succ_of_lt hr2) (by simp; omega)).trans hc3
  have hz3 := k3.size
  clear hc hc3
  go_wp2_with fail
  go_ret
  exact ⟨w1.heap.size, r, c, rfl, hz1, by omega, h1, hr1, by omega, h2, r3, k1.trans (k2.trans k3)⟩

set_option maxHeartbeats 400000 in
theorem whole_one {b : Nat} {src : ByteArray} {k l g : Nat} {tv : TypeId} {xv : Value} {w : World} (hr : Rd w b src k g) (hw : Nm w) (hb0 : b ≠ 0) (hk : k < src.size)
    (h124 : saw src k 124 = false) (h41 : saw src k 41 = false) (hp : PieceOk b src k l g (.iface tv xv)) (hl : l = src.size) :
    Calls Tryz.prog 143 #[.pointer (some ⟨b, 0, none⟩)] w fun e w' => ∃ (q r c : Nat), e = .returned (.iface 207 (.slice (some ⟨q, 0, none⟩) 1 1)) ∧ w.heap.size ≤ q ∧ q < w'.heap.size ∧ w'.cell? ⟨q, 0, none⟩ = some (.iface 211 (.slice (some ⟨r, 0, none⟩) 1 c)) ∧
      w.heap.size ≤ r ∧ r < w'.heap.size ∧ w'.cell? ⟨r, 0, none⟩ = some (.iface tv xv) ∧ Rd w' b src l g ∧ Kp [b] w w' := by
  have he2 : ((l : Int) == (src.size : Int)) = true := by simp; omega
  have hbl := hr.lt
  go_enter Tryz.func143, Tryz.ntmps143
  go_wp2_with fail
  refine (branches_one hr hw hb0 hk h124 h41 hp hl).mono ?_
  rintro e w1 ⟨q, r, c, rfl, hq1, hq2, hq3, hr1, hr2, hr3, r1, k1⟩
  clear hl hp
  go_wp2_with fail
  refine (ended_r r1 he2).mono ?_
  rintro e w2 ⟨rfl, r2, k2⟩
  have h1 := (k2.cell (p := ⟨q, 0, none⟩) hq2 (by simp; omega)).trans hq3
  have h2 := (k2.cell (p := ⟨r, 0, none⟩) hr2 (by simp; omega)).trans hr3
  have hz2 := k2.size
  clear hq3 hr3
  go_wp2_with fail
  go_ret
  exact ⟨q, r, c, rfl, hq1, by omega, h1, hr1, by omega, h2, r2, k1.trans k2⟩
end Go.Proofs.YtonnimbcekhbgaaGreatDoor
