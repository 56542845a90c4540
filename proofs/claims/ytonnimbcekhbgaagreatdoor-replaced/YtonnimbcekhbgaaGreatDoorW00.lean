/- What the claim needs of: MToA BToC D EToF. -/
import Derived.WalkKit
import Derived.WalkSpells
import Derived.Deep.QuietTactic
import Derived.Test.YtonnimbcekhbgaaGreatDoorRows
import Derived.WalkLawsBesides
import Derived.BigQuiet
import Derived.Deep.RegionWith
import Derived.Lib.Bytealg

/- MToA. -/
namespace Go.Proofs.YtonnimbcekhbgaaGreatDoor
open Go.RowKit

theorem hid {p : Prop} (h : p) : Hid p := h

/-- The first n bits from base on of a set of numbers, as a number. -/
def wb (m : Nat → Bool) (base : Nat) : Nat → Nat
  | 0 => 0
  | n + 1 => (if m (base + n) then 2 ^ n else 0) + wb m base n

theorem wb_lt (m : Nat → Bool) (base n : Nat) : wb m base n < 2 ^ n := by
  induction n with
  | zero => simp [wb]
  | succ n ih => simp only [wb, Nat.pow_succ]; split <;> omega

theorem wb_bit (m : Nat → Bool) (base n j : Nat) : (wb m base n).testBit j = (decide (j < n) && m (base + j)) := by
  induction n with
  | zero => simp [wb]
  | succ n ih =>
    have hl := wb_lt m base n
    simp only [wb]
    by_cases h : m (base + n) = true
    · simp only [h, if_true]
      rcases Nat.lt_trichotomy j n with hj | hj | hj
      · rw [Nat.testBit_two_pow_add_gt hj, ih]; simp [hj, Nat.lt_succ_of_lt hj]
      · subst hj; rw [Nat.testBit_two_pow_add_eq, ih]; simp [h]
      · rw [Nat.testBit_lt_two_pow]
        · rw [decide_eq_false (by omega)]; rfl
        · calc 2 ^ n + wb m base n < 2 ^ n + 2 ^ n := by omega
            _ = 2 ^ (n + 1) := by rw [Nat.pow_succ]; omega
            _ ≤ 2 ^ j := Nat.pow_le_pow_right (by decide) hj
    · have h' : m (base + n) = false := by simpa using h
      rw [h', show (if false = true then 2 ^ n else 0) + wb m base n = wb m base n by simp, ih]
      rcases Nat.lt_trichotomy j n with hj | hj | hj
      · simp [hj, Nat.lt_succ_of_lt hj]
      · subst hj; simp [h']
      · rw [decide_eq_false (by omega), decide_eq_false (by omega)]

/-- Word i of a set of bytes. -/
def wd (m : Nat → Bool) (i : Nat) : Nat := wb m (64 * i) 64

theorem p64 : (2 : Nat) ^ 64 = 18446744073709551616 := by simp
theorem wd_lt (m : Nat → Bool) (i : Nat) : wd m i < 2 ^ 64 := wb_lt _ _ _
theorem wd_lt' (m : Nat → Bool) (i : Nat) : wd m i < 18446744073709551616 := Nat.lt_of_lt_of_eq (wd_lt m i) p64
theorem wd_bit (m : Nat → Bool) (i j : Nat) : (wd m i).testBit j = (decide (j < 64) && m (64 * i + j)) := wb_bit _ _ _ _

theorem wd_ext {m : Nat → Bool} {i x : Nat} (hx : x < 2 ^ 64) (h : ∀ j, j < 64 → x.testBit j = m (64 * i + j)) : x = wd m i := by
  apply Nat.eq_of_testBit_eq
  intro j
  rw [wd_bit]
  by_cases hj : j < 64
  · simp [hj, h j hj]
  · simp only [hj, decide_false, Bool.false_and]
    exact Nat.testBit_lt_two_pow (Nat.lt_of_lt_of_le hx (Nat.pow_le_pow_right (by decide) (by omega)))

theorem wd_congr {m m' : Nat → Bool} {i : Nat} (h : ∀ j, j < 64 → m (64 * i + j) = m' (64 * i + j)) : wd m i = wd m' i :=
  wd_ext (wd_lt _ _) fun j hj => by rw [wd_bit]; simp [hj, h j hj]

/-- A set and one number more. -/
def more (m : Nat → Bool) (k : Nat) : Nat → Bool := fun x => m x || x == k
/-- A set and all from one to another. -/
def span (m : Nat → Bool) (x y : Nat) : Nat → Bool := fun z => m z || (decide (x ≤ z) && decide (z < y))

theorem two_pow_lt (k : Nat) : 2 ^ (k % 64) < 2 ^ 64 := Nat.pow_lt_pow_right (by decide) (Nat.mod_lt _ (by decide))

theorem two_pow_lt' (k : Nat) : 2 ^ (k % 64) < 18446744073709551616 := Nat.lt_of_lt_of_eq (two_pow_lt k) p64

theorem wrap_pow (k : Nat) : IntKind.u64.wrap (2 ^ (k % 64)) = ((2 ^ (k % 64) : Nat) : Int) := by
  have h := two_pow_lt' k
  rw [IntKind.wrap_u64, show ((2 : Int) ^ (k % 64)) = ((2 ^ (k % 64) : Nat) : Int) by norm_cast]
  generalize 2 ^ (k % 64) = z at h
  omega

theorem more_same (m : Nat → Bool) (k : Nat) : bits .or .u64 (wd m (k / 64) : Int) (IntKind.u64.wrap (2 ^ (k % 64))) = (wd (more m k) (k / 64) : Int) := by
  have h1 := wd_lt m (k / 64)
  have h2 := two_pow_lt k
  rw [wrap_pow, u64_or_nat _ _ (wd_lt' _ _) (two_pow_lt' k)]
  refine congrArg (fun n : Nat => (n : Int)) (wd_ext (Nat.or_lt_two_pow h1 h2) fun j hj => ?_)
  have e : decide (k % 64 = j) = (64 * (k / 64) + j == k) := by
    rw [Bool.eq_iff_iff]; simp only [decide_eq_true_eq, beq_iff_eq]
    have := Nat.div_add_mod k 64
    omega
  rw [Nat.testBit_or, wd_bit, Nat.testBit_two_pow, e, decide_eq_true hj, Bool.true_and]
  rfl

theorem more_other (m : Nat → Bool) (k i : Nat) (h : i ≠ k / 64) : wd (more m k) i = wd m i :=
  wd_congr fun j hj => by
    have : (64 * i + j == k) = false := by rw [beq_eq_false_iff_ne]; omega
    simp [more, this]

theorem has_bit (m : Nat → Bool) (x : Nat) : (bits .and .u64 ((wd m (x / 64) : Int) / 2 ^ (x % 64)) 1 == 1) = m x := by
  have e : ((wd m (x / 64) : Int) / 2 ^ (x % 64)) = ((wd m (x / 64) / 2 ^ (x % 64) : Nat) : Int) := by norm_cast
  have h2 : wd m (x / 64) / 2 ^ (x % 64) < 18446744073709551616 := Nat.lt_of_le_of_lt (Nat.div_le_self _ _) (wd_lt' _ _)
  rw [e, show (1 : Int) = ((1 : Nat) : Int) by rfl, u64_and_nat _ _ h2 (by decide)]
  have hb := wd_bit m (x / 64) (x % 64)
  rw [Nat.testBit_eq_decide_div_mod_eq] at hb
  have hx : x % 64 < 64 := Nat.mod_lt _ (by decide)
  rw [Nat.div_add_mod] at hb
  simp only [hx, decide_true, Bool.true_and] at hb
  rw [Nat.and_one_is_mod, ← hb, Bool.eq_iff_iff, beq_iff_eq, decide_eq_true_eq]
  omega

theorem span_none (m : Nat → Bool) (x : Nat) : span m x x = m := by
  funext z; simp only [span]
  have : (decide (x ≤ z) && decide (z < x)) = false := by rw [Bool.eq_false_iff]; simp
  rw [this]; exact Bool.or_false _

theorem span_more (m : Nat → Bool) (x y : Nat) (h : x ≤ y) : more (span m x y) y = span m x (y + 1) := by
  funext z; simp only [span, more]
  rw [Bool.eq_iff_iff]; simp only [Bool.or_eq_true, Bool.and_eq_true, decide_eq_true_eq, beq_iff_eq]
  cases m z <;> simp
  omega

theorem wrap_i64_nat (k : Nat) (h : k < 9223372036854775808) : IntKind.i64.wrap (k : Int) = (k : Int) := by rw [IntKind.wrap_i64]; omega

theorem wrap_i64_succ (k k1 : Nat) (e : k1 = k + 1) (h : k < 4611686018427387904) : IntKind.i64.wrap ((k : Int) + 1) = (k1 : Int) := by rw [IntKind.wrap_i64]; omega

/-- What a call leaves as it was: all blocks that were there, but those of a list. -/
structure Kp (S : List Nat) (w w' : World) : Prop where
  os : w'.os = w.os
  tape : w'.tape = w.tape
  output : w'.output = w.output
  size : w.heap.size ≤ w'.heap.size
  block : ∀ k, k < w.heap.size → k ∉ S → w'.heap[k]? = w.heap[k]?

theorem Kp.refl (S : List Nat) (w : World) : Kp S w w := ⟨rfl, rfl, rfl, Nat.le_refl _, fun _ _ _ => rfl⟩
theorem Kp.trans {S : List Nat} {a b c : World} (h : Kp S a b) (k : Kp S b c) : Kp S a c :=
  ⟨k.os.trans h.os, k.tape.trans h.tape, k.output.trans h.output, Nat.le_trans h.size k.size,
    fun i hi hn => (k.block i (Nat.lt_of_lt_of_le hi h.size) hn).trans (h.block i hi hn)⟩
theorem Kp.mono {S T : List Nat} {w w' : World} (h : Kp S w w') (hs : ∀ x, x ∈ S → x ∈ T) : Kp T w w' :=
  ⟨h.os, h.tape, h.output, h.size, fun i hi hn => h.block i hi (fun hx => hn (hs i hx))⟩
/-- The call's own blocks need not be named. -/
theorem Kp.own {S : List Nat} {x : Nat} {a b : World} (h : Kp (x :: S) a b) (hx : a.heap.size ≤ x) : Kp S a b :=
  ⟨h.os, h.tape, h.output, h.size, fun i hi hn => h.block i hi (fun hm => by
    rcases List.mem_cons.1 hm with e | e
    · omega
    · exact hn e)⟩
theorem Kp.drewN (S : List Nat) (w : World) (n : Nat) : Kp S w (w.drewN n) := by
  refine ⟨rfl, rfl, rfl, Nat.le_refl _, fun _ _ _ => rfl⟩
theorem Kp.drew (S : List Nat) (w : World) : Kp S w w.drew := ⟨rfl, rfl, rfl, Nat.le_refl _, fun _ _ _ => rfl⟩
theorem Kp.alloc (S : List Nat) (w : World) (o : Obj) : Kp S w (w.alloc o) :=
  ⟨rfl, rfl, rfl, by simp, fun k hk _ => Below.heap_alloc _ _ _ hk⟩
theorem Kp.setCell {S : List Nat} (w : World) {p : Addr} (u : Value) (hp : p.block ∈ S) : Kp S w (w.setCell p u) :=
  ⟨rfl, rfl, rfl, by simp [World.setCell], fun k _ hn => Below.heap_setCell _ _ _ _ (fun e => hn (e ▸ hp))⟩
theorem Kp.cell {S : List Nat} {w w' : World} (h : Kp S w w') {p : Addr} (hp : p.block < w.heap.size) (hn : p.block ∉ S) : w'.cell? p = w.cell? p :=
  World.cell?_of_block (w := w) (h.block p.block hp hn)
theorem Kp.frozen {S : List Nat} {w w' : World} (h : Kp S w w') {p : Addr} (hp : p.block < w.heap.size) (hn : p.block ∉ S) : w'.frozen? p = w.frozen? p :=
  World.frozen?_of_block (w := w) (h.block p.block hp hn)
theorem Kp.below {w w' : World} (h : Kp [] w w') : Below w.heap.size w w' :=
  ⟨h.os, h.tape, h.output, h.size, fun k hk => h.block k hk (by simp)⟩
theorem Kp.of_below {w w' : World} (h : Below w.heap.size w w') : Kp [] w w' :=
  ⟨h.os, h.tape, h.output, h.size, fun k hk _ => h.block k hk⟩

/-- The set of bytes m lies in block b. -/
structure St (w : World) (b : Nat) (m : Nat → Bool) : Prop where
  lt : b < w.heap.size
  cell : ∀ i, i < 4 → w.cell? ⟨b, i, none⟩ = some (.int .u64 (wd m i))
  free : ∀ i, w.frozen? ⟨b, i, none⟩ = false

theorem St.keep {S : List Nat} {w w' : World} {b : Nat} {m : Nat → Bool} (h : St w b m) (k : Kp S w w') (hn : b ∉ S) : St w' b m :=
  ⟨Nat.lt_of_lt_of_le h.lt k.size, fun i hi => by rw [k.cell h.lt hn]; exact h.cell i hi, fun i => by rw [k.frozen h.lt hn]; exact h.free i⟩

/-- A reader of src lies in block b: it looks at place k, and has met g groups. -/
structure Rd (w : World) (b : Nat) (src : ByteArray) (k g : Nat) : Prop where
  lt : b < w.heap.size
  le : k ≤ src.size
  small : src.size ≤ 2000
  c0 : w.cell? ⟨b, 0, none⟩ = some (.string src)
  c1 : w.cell? ⟨b, 1, none⟩ = some (.int .i64 k)
  ce : w.cell? ⟨b, 2, none⟩ = some (.int .i64 2)
  c2 : w.cell? ⟨b, 3, none⟩ = some (.int .i64 g)
  free : ∀ i, w.frozen? ⟨b, i, none⟩ = false

theorem Rd.keep {S : List Nat} {w w' : World} {b : Nat} {src : ByteArray} {k g : Nat} (h : Rd w b src k g) (q : Kp S w w') (hn : b ∉ S) : Rd w' b src k g :=
  ⟨Nat.lt_of_lt_of_le h.lt q.size, h.le, h.small, by rw [q.cell h.lt hn]; exact h.c0, by rw [q.cell h.lt hn]; exact h.c1, by rw [q.cell h.lt hn]; exact h.ce, by rw [q.cell h.lt hn]; exact h.c2, fun i => by rw [q.frozen h.lt hn]; exact h.free i⟩

/-- Does the byte x stand at place k? -/
def saw (s : ByteArray) (k : Nat) (x : Int) : Bool := if h : k < s.size then ((s[k]).toNat : Int) == x else false

theorem saw_lt {s : ByteArray} {k : Nat} {x : Int} (h : saw s k x = true) : k < s.size := by
  unfold saw at h; split at h
  · assumption
  · simp at h

theorem cell_same {w : World} {a : Addr} {u : Value} (v : Value) (h : w.cell? a = some u) : (w.setCell a v).cell? a = some v := World.cell?_setCell_same' w a v (by simp [h])
theorem cell_other {w : World} {a c : Addr} (v : Value) (h : a ≠ c) : (w.setCell a v).cell? c = w.cell? c := World.cell?_setCell_other _ _ _ _ h

theorem Rd.step {w : World} {b : Nat} {src : ByteArray} {k g : Nat} (h : Rd w b src k g) (hk : k < src.size) : Rd (w.setCell ⟨b, 1, none⟩ (.int .i64 ((k : Int) + 1))) b src (k + 1) g := by
  refine ⟨by simpa [World.setCell] using h.lt, by omega, h.small, ?_, ?_, ?_, ?_, fun i => by simpa using h.free i⟩
  · rw [cell_other _ (by simp)]; exact h.c0
  · rw [cell_same _ h.c1]; simp
  · rw [cell_other _ (by simp)]; exact h.ce
  · rw [cell_other _ (by simp)]; exact h.c2

theorem Rd.drewN {w : World} {b : Nat} {src : ByteArray} {k g : Nat} (h : Rd w b src k g) (n : Nat) : Rd (w.drewN n) b src k g := h.keep (Kp.drewN [] w n) (by simp)
theorem Rd.drew {w : World} {b : Nat} {src : ByteArray} {k g : Nat} (h : Rd w b src k g) : Rd w.drew b src k g := h.keep (Kp.drew [] w) (by simp)

end Go.Proofs.YtonnimbcekhbgaaGreatDoor

/- The small functions of the reader: contracts over the cells of its block. -/
namespace Go.Proofs.YtonnimbcekhbgaaGreatDoor
open Go.RowKit

set_option maxHeartbeats 400000 in
theorem ended_any (b : Nat) (src : ByteArray) (k : Nat) (w : World)
    (c0 : w.cell? ⟨b, 0, none⟩ = some (.string src)) (c1 : w.cell? ⟨b, 1, none⟩ = some (.int .i64 k)) :
    Calls Tryz.prog 79 #[.pointer (some ⟨b, 0, none⟩)] w fun e w' => e = .returned (.bool ((k : Int) == (src.size : Int))) ∧ ∃ n, w' = w.drewN n := by
  go_enter Tryz.func79, Tryz.ntmps79
  go_wp2
  go_quiet (fail)
  go_wp2
  go_ret
  exact ⟨rfl, _, rfl⟩

set_option maxHeartbeats 400000 in
theorem sees_end (b : Nat) (src : ByteArray) (k : Nat) (x : Int) (w : World)
    (c0 : w.cell? ⟨b, 0, none⟩ = some (.string src)) (c1 : w.cell? ⟨b, 1, none⟩ = some (.int .i64 k)) (hk : k = src.size) :
    Calls Tryz.prog 104 #[.pointer (some ⟨b, 0, none⟩), .int .u8 x] w fun e w' => e = .returned (.bool false) ∧ ∃ n, w' = w.drewN n := by
  have hb : ((k : Int) == (src.size : Int)) = true := by simp [hk]
  have HK : Hid (k = src.size) := hk
  clear hk
  go_enter Tryz.func104, Tryz.ntmps104
  go_wp2
  go_quiet ((go_at_call 79; exact Calls.quiet_of (ended_any b src k _ (by simpa using c0) (by simpa using c1))))
  go_wp2
  go_ret
  exact ⟨rfl, _, rfl⟩

set_option maxHeartbeats 400000 in
theorem sees_in (b : Nat) (src : ByteArray) (k : Nat) (x : Int) (w : World)
    (c0 : w.cell? ⟨b, 0, none⟩ = some (.string src)) (c1 : w.cell? ⟨b, 1, none⟩ = some (.int .i64 k)) (hk : k < src.size) :
    Calls Tryz.prog 104 #[.pointer (some ⟨b, 0, none⟩), .int .u8 x] w fun e w' => e = .returned (.bool (((src[k]).toNat : Int) == x)) ∧ ∃ n, w' = w.drewN n := by
  have hb : ((k : Int) == (src.size : Int)) = false := by simp; omega
  go_enter Tryz.func104, Tryz.ntmps104
  go_wp2
  go_quiet ((go_at_call 79; exact Calls.quiet_of (ended_any b src k _ (by simpa using c0) (by simpa using c1))))
  go_wp2
  go_ret
  exact ⟨rfl, _, rfl⟩

theorem sees_any {b : Nat} {src : ByteArray} {k g : Nat} (x : Int) {w : World} (hr : Rd w b src k g) :
    Calls Tryz.prog 104 #[.pointer (some ⟨b, 0, none⟩), .int .u8 x] w fun e w' => e = .returned (.bool (saw src k x)) ∧ ∃ n, w' = w.drewN n := by
  by_cases hk : k < src.size
  · have := sees_in b src k x w hr.c0 hr.c1 hk
    simpa [saw, hk] using this
  · have := sees_end b src k x w hr.c0 hr.c1 (by have := hr.le; omega)
    simpa [saw, hk] using this

set_option maxHeartbeats 400000 in
theorem take_no {b : Nat} {src : ByteArray} {k g : Nat} (x : Int) {w : World} (hr : Rd w b src k g) (h : saw src k x = false) :
    Calls Tryz.prog 116 #[.pointer (some ⟨b, 0, none⟩), .int .u8 x] w fun e w' => e = .returned (.bool false) ∧ Rd w' b src k g ∧ Kp [b] w w' := by
  have H : Hid _ := h
  go_enter Tryz.func116, Tryz.ntmps116
  go_wp2_with (go_at_call 104; refine (sees_any x hr).mono ?_; rintro e w1 ⟨rfl, n, rfl⟩)
  go_ret
  exact ⟨rfl, hr.drewN n, Kp.drewN _ _ _⟩

set_option maxHeartbeats 400000 in
theorem take_yes {b : Nat} {src : ByteArray} {k g : Nat} (x : Int) {w : World} (hr : Rd w b src k g) (h : saw src k x = true) :
    Calls Tryz.prog 116 #[.pointer (some ⟨b, 0, none⟩), .int .u8 x] w fun e w' => e = .returned (.bool true) ∧ Rd w' b src (k + 1) g ∧ Kp [b] w w' := by
  have c1 := hr.c1
  have f1 := hr.free 1
  have hk := saw_lt h
  have hsm := hr.small
  go_enter Tryz.func116, Tryz.ntmps116
  go_wp2_with (go_at_call 104; refine (sees_any x hr).mono ?_; rintro e w1 ⟨rfl, n, rfl⟩)
  go_ret
  exact ⟨rfl, (hr.drewN n).step hk, (Kp.drewN _ _ _).trans (Kp.setCell _ _ (by simp))⟩

set_option maxHeartbeats 400000 in
theorem expect_yes {b : Nat} {src : ByteArray} {k g : Nat} (x : Int) {w : World} (hr : Rd w b src k g) (h : saw src k x = true) :
    Calls Tryz.prog 110 #[.pointer (some ⟨b, 0, none⟩), .int .u8 x] w fun e w' => e = .returned (.tuple #[]) ∧ Rd w' b src (k + 1) g ∧ Kp [b] w w' := by
  go_enter Tryz.func110, Tryz.ntmps110
  go_wp2_with (go_at_call 116; refine (take_yes x hr h).mono ?_; rintro e w1 ⟨rfl, h1, h2⟩)
  go_end0
  exact ⟨rfl, h1, h2⟩
theorem ended_q {b : Nat} {src : ByteArray} {k g : Nat} {w : World} (hr : Rd w b src k g) (n : Nat) :
    Calls Tryz.prog 79 #[.pointer (some ⟨b, 0, none⟩)] (w.drewN n) fun e w'' => e = .returned (.bool ((k : Int) == (src.size : Int))) ∧ ∃ m, w'' = w.drewN m :=
  Calls.quiet_of (ended_any b src k _ (hr.drewN n).c0 (hr.drewN n).c1)

theorem sees_q {b : Nat} {src : ByteArray} {k g : Nat} (x : Int) {w : World} (hr : Rd w b src k g) {v : Bool} (h : saw src k x = v) (n : Nat) :
    Calls Tryz.prog 104 #[.pointer (some ⟨b, 0, none⟩), .int .u8 x] (w.drewN n) fun e w'' => e = .returned (.bool v) ∧ ∃ m, w'' = w.drewN m := by
  subst h
  exact Calls.quiet_of (sees_any x (hr.drewN n))

theorem ended_r {b : Nat} {src : ByteArray} {k g : Nat} {w : World} (hr : Rd w b src k g) {v : Bool} (h : ((k : Int) == (src.size : Int)) = v) :
    Calls Tryz.prog 79 #[.pointer (some ⟨b, 0, none⟩)] w fun e w' => e = .returned (.bool v) ∧ Rd w' b src k g ∧ Kp [b] w w' := by
  subst h
  exact (ended_any b src k w hr.c0 hr.c1).mono fun e w' ⟨he, n, hw⟩ => ⟨he, by rw [hw]; exact hr.drewN n, by rw [hw]; exact Kp.drewN _ _ _⟩

theorem sees_r {b : Nat} {src : ByteArray} {k g : Nat} (x : Int) {w : World} (hr : Rd w b src k g) {v : Bool} (h : saw src k x = v) :
    Calls Tryz.prog 104 #[.pointer (some ⟨b, 0, none⟩), .int .u8 x] w fun e w' => e = .returned (.bool v) ∧ Rd w' b src k g ∧ Kp [b] w w' := by
  subst h
  exact (sees_any x hr).mono fun e w' ⟨he, n, hw⟩ => ⟨he, by rw [hw]; exact hr.drewN n, by rw [hw]; exact Kp.drewN _ _ _⟩
end Go.Proofs.YtonnimbcekhbgaaGreatDoor

/- BToC. -/
namespace Go.Proofs.YtonnimbcekhbgaaGreatDoor
open Go.RowKit

/-- A set as a value. -/
abbrev setV (m : Nat → Bool) : Value := .agg #[.int .u64 (wd m 0), .int .u64 (wd m 1), .int .u64 (wd m 2), .int .u64 (wd m 3)]

theorem words_at (m : Nat → Bool) (i : Nat) (h : i < 4) : [Value.int .u64 (wd m 0), .int .u64 (wd m 1), .int .u64 (wd m 2), .int .u64 (wd m 3)][i]? = some (.int .u64 (wd m i)) := by
  match i, h with
  | 0, _ => rfl
  | 1, _ => rfl
  | 2, _ => rfl
  | 3, _ => rfl

set_option maxHeartbeats 400000 in
theorem has_any (m : Nat → Bool) (x : Nat) (hx : x < 256) (w : World) :
    Calls Tryz.prog 170 #[setV m, .int .u8 x] w fun e w' => e = .returned (.bool (m x)) ∧ Kp [] w w' := by
  have hv := words_at m (x / 64) (by omega)
  have hb := has_bit m x
  unfold setV
  generalize (wd m 0 : Int) = a0 at *
  generalize (wd m 1 : Int) = a1 at *
  generalize (wd m 2 : Int) = a2 at *
  generalize (wd m 3 : Int) = a3 at *
  generalize (wd m (x / 64) : Int) = a4 at *
  have HB : Hid _ := hb
  clear hb
  go_enter Tryz.func170, Tryz.ntmps170
  go_wp2
  go_ret
  exact ⟨by rw [← HB.out]; rfl, Kp.alloc _ _ _⟩

set_option maxHeartbeats 400000 in
theorem add_any (b : Nat) (m : Nat → Bool) (x y : Nat) (hx : x < 256) (hy : y < 256) (hxy : x ≤ y) (w : World) (hs : St w b m) :
    Calls Tryz.prog 178 #[.pointer (some ⟨b, 0, none⟩), .int .u8 x, .int .u8 y] w fun e w' => e = .returned (.tuple #[]) ∧ St w' b (span m x (y + 1)) ∧ Kp [b] w w' := by
  go_enter Tryz.func178, Tryz.ntmps178
  go_wp2
  go_loopw [6] (fun i wr => ∃ k : Nat, x ≤ k ∧ k ≤ y + 1 ∧ i = .int .i64 k ∧ St wr b (span m x k) ∧ Kp [b] w wr) (fun i _ => y + 1 - (intOf i).toNat)
  case atStart => exact ⟨x, Nat.le_refl _, by omega, rfl, by rw [span_none]; exact hs, Kp.refl _ _⟩
  case round =>
    obtain ⟨k, hk1, hk2, rfl, hst, hkp⟩ := hrel
    by_cases hlt : k ≤ y
    · have hq : k / 64 < 4 := by omega
      have hc1 := hst.cell (k / 64) hq
      have hf1 := hst.free (k / 64)
      have hst2 : Hid (∀ j, j < 4 → wr.cell? ⟨b, j, none⟩ = some (.int .u64 (wd (span m x k) j))) := hst.cell
      have hfr : Hid (∀ j, wr.frozen? ⟨b, j, none⟩ = false) := hst.free
      have hbl := hst.lt
      have hso := more_same (span m x k) k
      have HS : Hid _ := hso
      have hmo := span_more m x k hk1
      have HM : Hid _ := hmo
      clear hso hmo hst hs
      generalize hm' : span m x k = m' at *
      clear hm'
      go_wp2
      go_region
      go_wp2
      go_roundw
      case rel =>
        refine ⟨k + 1, by omega, by omega, by go_num, ⟨?_, ?_, ?_⟩, ?_⟩
        · simpa [World.setCell] using hbl
        · intro j hj
          rw [HS.out, ← HM.out]
          by_cases e : j = k / 64
          · subst e; simp [World.cell?_setCell_same, hc1]
          · rw [more_other _ _ _ e]
            have := hst2.out j hj
            simpa [World.cell?_setCell_other, e, Ne.symm e] using this
        · intro j; simpa using hfr.out j
        · exact hkp.trans ((Kp.setCell _ _ (by simp)).trans (Kp.drew _ _))
      case measure => simp [intOf]; omega
    · have e : k = y + 1 := by omega
      subst e
      clear hs
      go_wp2
      go_end0
      exact ⟨rfl, hst, hkp⟩

end Go.Proofs.YtonnimbcekhbgaaGreatDoor

/- Reading a byte of a class, its items and its names: contracts for what can be read. -/
namespace Go.Proofs.YtonnimbcekhbgaaGreatDoor
open Go.RowKit

theorem run_index53 (s : ByteArray) (c : Int) (w : World) :
    (callFunc 155 #[.string s, .int .u8 c]).run Tryz.prog w = .ok (.value (.int .i64 (Lib.indexByte s.data.toList c.toNat.toUInt8))) w := by
  rw [run_callFunc_extern Tryz.func155 (by kernel_rfl) (by kernel_rfl) (by kernel_rfl) (e := Extern.BytealgIndexByte.indexByte) (by kernel_rfl), Lib.run_indexByteString]
  rfl

set_option maxHeartbeats 400000 in
theorem index_any (s : ByteArray) (c : Int) (w : World) :
    Calls Tryz.prog 129 #[.string s, .int .u8 c] w fun e w' => e = .returned (.int .i64 (Lib.indexByte s.data.toList c.toNat.toUInt8)) ∧ w' = w := by
  have h := run_index53
  go_enter Tryz.func129, Tryz.ntmps129
  go_wp2
  go_ret
  exact ⟨rfl, rfl⟩

theorem index_q (s : ByteArray) (c : Int) {v : Int} (h : Lib.indexByte s.data.toList c.toNat.toUInt8 = v) (w : World) (n : Nat) :
    Calls Tryz.prog 129 #[.string s, .int .u8 c] (w.drewN n) fun e w'' => e = .returned (.int .i64 v) ∧ ∃ m, w'' = w.drewN m := by
  subst h
  exact Calls.quiet_of_same (index_any s c _)

set_option maxHeartbeats 800000 in
theorem byteOf_plain {b : Nat} {src : ByteArray} {k g : Nat} (barred behind : ByteArray) {w : World} (hr : Rd w b src k g) (hk : k < src.size)
    (h92 : saw src k 92 = false) (h10 : saw src k 10 = false) (hbar : Lib.indexByte barred.data.toList src[k] = -1) :
    Calls Tryz.prog 177 #[.pointer (some ⟨b, 0, none⟩), .string barred, .string behind] w fun e w' => e = .returned (.int .u8 (src[k]).toNat) ∧ Rd w' b src (k + 1) g ∧ Kp [b] w w' := by
  go_enter Tryz.func177, Tryz.ntmps177
  go_wp2_with (go_at_call 116; refine (take_no 92 hr h92).mono ?_; rintro e w1 ⟨rfl, h1, h2⟩)
  have c0 := h1.c0
  have c1 := h1.c1
  have f1 := h1.free 1
  have hsm := h1.small
  have he : ((k : Int) == (src.size : Int)) = false := by simp; omega
  have hix : Lib.indexByte barred.data.toList ((src[k].toNat : Int)).toNat.toUInt8 = -1 := by simpa using hbar
  go_quiet (first | (go_at_call 79; exact ended_q h1 _) | (go_at_call 104; exact sees_q 10 h1 h10 _) | (go_at_call 129; exact index_q _ _ hix _ _))
  go_wp2
  go_quiet (fail)
  go_wp2
  go_ret
  exact ⟨rfl, ((h1.drewN _).step hk).drewN _, h2.trans ((Kp.drewN _ _ _).trans ((Kp.setCell _ _ (by simp)).trans (Kp.drewN _ _ _)))⟩
end Go.Proofs.YtonnimbcekhbgaaGreatDoor

/- D. -/
namespace Go.Proofs.YtonnimbcekhbgaaGreatDoor
open Go.RowKit

/-- Something lies in memory (no name of a class is asked for). -/
structure Nm (w : World) : Prop where
  lt : 0 < w.heap.size
theorem Nm.keep {S : List Nat} {w w' : World} (h : Nm w) (k : Kp S w w') (_hn : 0 ∉ S) : Nm w' := ⟨Nat.lt_of_lt_of_le h.lt k.size⟩

/-- Where a reader looks. -/
def atOf (w : World) (b : Nat) : Nat := (intOf ((w.cell? ⟨b, 1, none⟩).getD undef)).toNat
theorem atOf_rd {w : World} {b : Nat} {src : ByteArray} {k g : Nat} (h : Rd w b src k g) : atOf w b = k := by simp [atOf, h.c1, intOf]
end Go.Proofs.YtonnimbcekhbgaaGreatDoor

/- EToF. -/
namespace Go.Proofs.YtonnimbcekhbgaaGreatDoor
open Go.RowKit

abbrev zero4 : Obj := .cells #[.int .u64 0, .int .u64 0, .int .u64 0, .int .u64 0] 183
def noBytes : Nat → Bool := fun _ => false

theorem wd_none (i : Nat) : wd noBytes i = 0 := by
  refine (wd_ext (by simp) fun j _ => ?_).symm
  simp [noBytes]

theorem St_new (w : World) : St (w.alloc zero4) w.heap.size noBytes := by
  refine ⟨by simp, fun i hi => ?_, fun i => by simp⟩
  rw [wd_none]
  match i, hi with
  | 0, _ => simp
  | 1, _ => simp
  | 2, _ => simp
  | 3, _ => simp

end Go.Proofs.YtonnimbcekhbgaaGreatDoor

/- A pattern that is one class, from its atom to the whole: contracts. -/
namespace Go.Proofs.YtonnimbcekhbgaaGreatDoor
open Go.RowKit

abbrev oneV (m : Nat → Bool) : Value := .iface 225 (setV m)

set_option maxHeartbeats 400000 in
theorem repeated_no {b : Nat} {src : ByteArray} {k g : Nat} (v : Value) {w : World} (hr : Rd w b src k g)
    (h1 : saw src k 42 = false) (h2 : saw src k 43 = false) (h3 : saw src k 63 = false) (h4 : saw src k 123 = false) :
    Calls Tryz.prog 171 #[.pointer (some ⟨b, 0, none⟩), v] w fun e w' => e = .returned v ∧ Rd w' b src k g ∧ Kp [b] w w' := by
  go_enter Tryz.func171, Tryz.ntmps171
  go_wp2_with fail
  refine (take_no 42 hr h1).mono ?_
  rintro e w1 ⟨rfl, r1, k1⟩
  go_wp2_with fail
  refine (take_no 43 r1 h2).mono ?_
  rintro e w2 ⟨rfl, r2, k2⟩
  go_wp2_with fail
  refine (take_no 63 r2 h3).mono ?_
  rintro e w3 ⟨rfl, r3, k3⟩
  go_wp2_with fail
  refine (take_no 123 r3 h4).mono ?_
  rintro e w4 ⟨rfl, r4, k4⟩
  go_wp2_with fail
  go_ret
  exact ⟨rfl, r4, k1.trans (k2.trans (k3.trans k4))⟩

/-- The piece at place k can be read, up to place l: it is v. -/
def PieceOk (b : Nat) (src : ByteArray) (k l g : Nat) (v : Value) : Prop :=
  ∀ w : World, Rd w b src k g → Nm w →
    Calls Tryz.prog 169 #[.pointer (some ⟨b, 0, none⟩)] w fun e w' => e = .returned v ∧ Rd w' b src l g ∧ Kp [b] w w'

theorem Tryz.infoNode : (Tryz.prog.info? 173).map (fun i => (i.zero, i.size, i.bytes)) = some (some .nilIface, 1, 16) := by kernel_rfl

end Go.Proofs.YtonnimbcekhbgaaGreatDoor
