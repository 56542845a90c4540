/- Reading a byte of a row, as it is or behind a backslash, and the text's beginning and end: contracts for what can be read. -/
import Derived.Test.YtanpiomfnbiilaaDoorF
namespace Go.Proofs.YtanpiomfnbiilaaDoor
open Go.RowKit

set_option maxHeartbeats 800000 in
theorem escape_n {b : Nat} {src : ByteArray} {k g : Nat} (behind : ByteArray) {w : World} (hr : Rd w b src k g) (h : saw src k 110 = true) :
    Calls Tryd.prog 52 #[.pointer (some ⟨b, 0, none⟩), .string behind] w fun e w' => e = .returned (.int .u8 10) ∧ Rd w' b src (k + 1) g ∧ Kp [b] w w' := by
  go_enter Tryd.func52, Tryd.ntmps52
  go_wp2_with fail
  refine (take_yes 110 hr h).mono ?_
  rintro e w1 ⟨rfl, r1, k1⟩
  go_wp2_with fail
  go_ret
  exact ⟨rfl, r1, k1⟩

set_option maxHeartbeats 800000 in
theorem escape_c {b : Nat} {src : ByteArray} {k g : Nat} (behind : ByteArray) {w : World} (hr : Rd w b src k g) (hk : k < src.size) (h1 : saw src k 110 = false) (h2 : saw src k 116 = false)
    {v : Int} (hix : Lib.indexByte behind.data.toList src[k] = v) (hv : 0 ≤ v) :
    Calls Tryd.prog 52 #[.pointer (some ⟨b, 0, none⟩), .string behind] w fun e w' => e = .returned (.int .u8 (src[k]).toNat) ∧ Rd w' b src (k + 1) g ∧ Kp [b] w w' := by
  go_enter Tryd.func52, Tryd.ntmps52
  go_wp2_with fail
  refine (take_no 110 hr h1).mono ?_
  rintro e w1 ⟨rfl, r1, k1⟩
  go_wp2_with fail
  refine (take_no 116 r1 h2).mono ?_
  rintro e w2 ⟨rfl, r2, k2⟩
  have c0 := r2.c0
  have c1 := r2.c1
  have f1 := r2.free 1
  have hsm := r2.small
  have he : ((k : Int) == (src.size : Int)) = false := by simp; omega
  have hix' : Lib.indexByte behind.data.toList ((src[k].toNat : Int)).toNat.toUInt8 = v := by simpa using hix
  have hv' : ¬ v < 0 := by omega
  go_wp2_with fail
  go_quiet (first | (go_at_call 28; exact ended_q r2 _) | (go_at_call 53; exact index_q _ _ hix' _ _))
  go_wp2
  go_quiet (fail)
  go_wp2
  go_ret
  exact ⟨rfl, ((r2.drewN _).step hk).drewN _, k1.trans (k2.trans ((Kp.drewN _ _ _).trans ((Kp.setCell _ _ (by simp)).trans (Kp.drewN _ _ _))))⟩

/-- The byte at place k can be read, up to place l: it is x. -/
def ByteOk (b : Nat) (src : ByteArray) (barred behind : ByteArray) (k l g x : Nat) : Prop :=
  ∀ w : World, Rd w b src k g → Calls Tryd.prog 46 #[.pointer (some ⟨b, 0, none⟩), .string barred, .string behind] w fun e w' => e = .returned (.int .u8 x) ∧ Rd w' b src l g ∧ Kp [b] w w'

theorem byte_plain {b : Nat} {src : ByteArray} {k g : Nat} {barred behind : ByteArray} (hk : k < src.size) (h92 : saw src k 92 = false) (h10 : saw src k 10 = false) (hbar : Lib.indexByte barred.data.toList src[k] = -1) :
    ByteOk b src barred behind k (k + 1) g (src[k]).toNat := fun _ hr => byteOf_plain barred behind hr hk h92 h10 hbar

set_option maxHeartbeats 800000 in
theorem byte_n {b : Nat} {src : ByteArray} {k g : Nat} {barred behind : ByteArray} (h92 : saw src k 92 = true) (h : saw src (k + 1) 110 = true) : ByteOk b src barred behind k (k + 1 + 1) g 10 := by
  intro w hr
  go_enter Tryd.func46, Tryd.ntmps46
  go_wp2_with fail
  refine (take_yes 92 hr h92).mono ?_
  rintro e w1 ⟨rfl, r1, k1⟩
  go_wp2_with fail
  refine (escape_n behind r1 h).mono ?_
  rintro e w2 ⟨rfl, r2, k2⟩
  go_wp2_with fail
  go_ret
  exact ⟨rfl, r2, k1.trans k2⟩

set_option maxHeartbeats 800000 in
theorem byte_c {b : Nat} {src : ByteArray} {k g : Nat} {barred behind : ByteArray} (h92 : saw src k 92 = true) (hk : k + 1 < src.size) (h1 : saw src (k + 1) 110 = false) (h2 : saw src (k + 1) 116 = false)
    {v : Int} (hix : Lib.indexByte behind.data.toList src[k + 1] = v) (hv : 0 ≤ v) : ByteOk b src barred behind k (k + 1 + 1) g (src[k + 1]).toNat := by
  intro w hr
  go_enter Tryd.func46, Tryd.ntmps46
  go_wp2_with fail
  refine (take_yes 92 hr h92).mono ?_
  rintro e w1 ⟨rfl, r1, k1⟩
  go_wp2_with fail
  refine (escape_c behind r1 hk h1 h2 hix hv).mono ?_
  rintro e w2 ⟨rfl, r2, k2⟩
  go_wp2_with fail
  go_ret
  exact ⟨rfl, r2, k1.trans k2⟩

/-- What means something in a pattern, and what may stand behind a backslash. -/
def special : ByteArray := ⟨#[92, 124, 42, 43, 63, 123, 125, 40, 41, 46, 94, 36, 91, 93]⟩
def escaped : ByteArray := ⟨#[92, 124, 42, 43, 63, 123, 125, 40, 41, 46, 94, 36, 91, 93, 47]⟩

abbrev edgeV (k : Int) : Value := .iface 98 (.agg #[.int .i64 k])

set_option maxRecDepth 100000 in
set_option maxHeartbeats 800000 in
theorem atom_byte {b : Nat} {src : ByteArray} {k l g x : Nat} {w : World} (hr : Rd w b src k g) (hx : x < 256) (h40 : saw src k 40 = false) (h46 : saw src k 46 = false) (h91 : saw src k 91 = false) (hb : ByteOk b src special escaped k l g x) :
    Calls Tryd.prog 40 #[.pointer (some ⟨b, 0, none⟩)] w fun e w' => e = .returned (oneV (span noBytes x (x + 1))) ∧ Rd w' b src l g ∧ Kp [b] w w' := by
  go_enter Tryd.func40, Tryd.ntmps40
  go_wp2_with fail
  refine (sees_any 40 hr).mono ?_
  rw [h40]
  rintro e w1 ⟨rfl, n, rfl⟩
  go_wp2_with fail
  refine (take_no 46 (hr.drewN n) h46).mono ?_
  rintro e w2 ⟨rfl, r2, k2⟩
  go_wp2_with fail
  refine (take_no 91 r2 h91).mono ?_
  rintro e w3 ⟨rfl, r3, k3⟩
  go_wp2_with fail
  refine (hb _ r3).mono ?_
  rintro e w4 ⟨rfl, r4, k4⟩
  have q4 := Kp.alloc [b] w4 zero4
  have r5 := r4.keep (Kp.alloc [] w4 zero4) (by simp)
  have s5 := St_new w4
  have hz5 : (w4.alloc zero4).heap.size = w4.heap.size + 1 := by simp
  have hbl := r4.lt
  go_wp2_with fail
  refine (add_any w4.heap.size noBytes x x hx hx (Nat.le_refl _) _ s5).mono ?_
  rintro e w6 ⟨rfl, s6, k6⟩
  have a0 := s6.cell 0 (by omega)
  have a1 := s6.cell 1 (by omega)
  have a2 := s6.cell 2 (by omega)
  have a3 := s6.cell 3 (by omega)
  have r6 := r5.keep k6 (by simp; omega)
  have k6' : Kp [b] w4 w6 := by
    have := Kp.own (x := w4.heap.size) (S := [b]) ((q4.mono (by simp)).trans (k6.mono (T := [w4.heap.size, b]) (by simp))) (Nat.le_refl _)
    exact this
  clear s5 s6 r5
  go_wp2_with fail
  go_ret
  exact ⟨rfl, r6, (Kp.drewN _ _ n).trans (k2.trans (k3.trans (k4.trans k6')))⟩

/-- A piece that is a byte. -/
theorem piece_byte {b : Nat} {src : ByteArray} {k l g x : Nat} (hx : x < 256) (h94 : saw src k 94 = false) (h36 : saw src k 36 = false) (h40 : saw src k 40 = false) (h46 : saw src k 46 = false) (h91 : saw src k 91 = false) (hb : ByteOk b src special escaped k l g x)
    (h1 : saw src l 42 = false) (h2 : saw src l 43 = false) (h3 : saw src l 63 = false) (h4 : saw src l 123 = false) : PieceOk b src k l g (oneV (span noBytes x (x + 1))) := by
  intro w hr _
  go_enter Tryd.func36, Tryd.ntmps36
  go_wp2_with fail
  refine (take_no 94 hr h94).mono ?_
  rintro e w1 ⟨rfl, r1, k1⟩
  go_wp2_with fail
  refine (take_no 36 r1 h36).mono ?_
  rintro e w2 ⟨rfl, r2, k2⟩
  go_wp2_with fail
  refine (atom_byte r2 hx h40 h46 h91 hb).mono ?_
  rintro e w3 ⟨rfl, r3, k3⟩
  go_wp2_with fail
  refine (repeated_no _ r3 h1 h2 h3 h4).mono ?_
  rintro e w4 ⟨rfl, r4, k4⟩
  go_wp2_with fail
  go_ret
  exact ⟨rfl, r4, k1.trans (k2.trans (k3.trans k4))⟩

theorem piece_begin {b : Nat} {src : ByteArray} {k g : Nat} (h94 : saw src k 94 = true) : PieceOk b src k (k + 1) g (edgeV 1) := by
  intro w hr _
  go_enter Tryd.func36, Tryd.ntmps36
  go_wp2_with fail
  refine (take_yes 94 hr h94).mono ?_
  rintro e w1 ⟨rfl, r1, k1⟩
  go_wp2_with fail
  go_ret
  exact ⟨rfl, r1, k1⟩

theorem piece_end {b : Nat} {src : ByteArray} {k g : Nat} (h94 : saw src k 94 = false) (h36 : saw src k 36 = true) : PieceOk b src k (k + 1) g (edgeV 2) := by
  intro w hr _
  go_enter Tryd.func36, Tryd.ntmps36
  go_wp2_with fail
  refine (take_no 94 hr h94).mono ?_
  rintro e w1 ⟨rfl, r1, k1⟩
  go_wp2_with fail
  refine (take_yes 36 r1 h36).mono ?_
  rintro e w2 ⟨rfl, r2, k2⟩
  go_wp2_with fail
  go_ret
  exact ⟨rfl, r2, k1.trans k2⟩

/-- The pieces from place k to the end. -/
def RowOk (b : Nat) (src : ByteArray) (g : Nat) : Nat → List Value → Prop
  | k, [] => k = src.size
  | k, v :: vs => k < src.size ∧ saw src k 124 = false ∧ saw src k 41 = false ∧ (∃ tv xv, v = .iface tv xv) ∧ ∃ l, k < l ∧ PieceOk b src k l g v ∧ RowOk b src g l vs
end Go.Proofs.YtanpiomfnbiilaaDoor
