/- What the claim needs of: MToA. -/
import Derived.WalkKit
import Derived.WalkSpells
import Derived.Deep.QuietTactic
import Derived.Test.YtonnimbcekhbgaaGreatDoorRows
import Derived.WalkLawsBesides
import Derived.BigQuiet

/- MToA. -/
namespace Go.Proofs.YtonnimbcekhbgaaGreatDoor
open Go.RowKit

theorem hid {p : Prop} (h : p) : Hid p := h

/-- The first n bits from base on of a set of numbers, as a number. -/
def wb (m : Nat → Bool) (base : Nat) : Nat → Nat
  | 0 => 0
  | n + 1 => (if m (base + n) then 2 ^ n else 0) + wb m base n

theorem wb_lt (m : Nat → Bool) (base n : Nat) : wb m base n < 2 ^ n := by
  induction n with
  | zero => simp [wb]
  | succ n ih => simp only [wb, Nat.pow_succ]; split <;> omega

theorem wb_bit (m : Nat → Bool) (base n j : Nat) : (wb m base n).testBit j = (decide (j < n) && m (base + j)) := by
  induction n with
  | zero => simp [wb]
  | succ n ih =>
    have hl := wb_lt m base n
    simp only [wb]
    by_cases h : m (base + n) = true
    · simp only [h, if_true]
      rcases Nat.lt_trichotomy j n with hj | hj | hj
      · rw [Nat.testBit_two_pow_add_gt hj, ih]; simp [hj, Nat.lt_succ_of_lt hj]
      · subst hj; rw [Nat.testBit_two_pow_add_eq, ih]; simp [h]
      · rw [Nat.testBit_lt_two_pow]
        · rw [decide_eq_false (by omega)]; rfl
        · calc 2 ^ n + wb m base n < 2 ^ n + 2 ^ n := by omega
            _ = 2 ^ (n + 1) := by rw [Nat.pow_succ]; omega
            _ ≤ 2 ^ j := Nat.pow_le_pow_right (by decide) hj
    · have h' : m (base + n) = false := by simpa using h
      rw [h', show (if false = true then 2 ^ n else 0) + wb m base n = wb m base n by simp, ih]
      rcases Nat.lt_trichotomy j n with hj | hj | hj
      · simp [hj, Nat.lt_succ_of_lt hj]
      · subst hj; simp [h']
      · rw [decide_eq_false (by omega), decide_eq_false (by omega)]

/-- Word i of a set of bytes. -/
def wd (m : Nat → Bool) (i : Nat) : Nat := wb m (64 * i) 64

theorem p64 : (2 : Nat) ^ 64 = 18446744073709551616 := by simp
theorem wd_lt (m : Nat → Bool) (i : Nat) : wd m i < 2 ^ 64 := wb_lt _ _ _
theorem wd_lt' (m : Nat → Bool) (i : Nat) : wd m i < 18446744073709551616 := Nat.lt_of_lt_of_eq (wd_lt m i) p64
theorem wd_bit (m : Nat → Bool) (i j : Nat) : (wd m i).testBit j = (decide (j < 64) && m (64 * i + j)) := wb_bit _ _ _ _

theorem wd_ext {m : Nat → Bool} {i x : Nat} (hx : x < 2 ^ 64) (h : ∀ j, j < 64 → x.testBit j = m (64 * i + j)) : x = wd m i := by
  apply Nat.eq_of_testBit_eq
  intro j
  rw [wd_bit]
  by_cases hj : j < 64
  · simp [hj, h j hj]
  · simp only [hj, decide_false, Bool.false_and]
    exact Nat.testBit_lt_two_pow (Nat.lt_of_lt_of_le hx (Nat.pow_le_pow_right (by decide) (by omega)))

theorem wd_congr {m m' : Nat → Bool} {i : Nat} (h : ∀ j, j < 64 → m (64 * i + j) = m' (64 * i + j)) : wd m i = wd m' i :=
  wd_ext (wd_lt _ _) fun j hj => by rw [wd_bit]; simp [hj, h j hj]

/-- A set and one number more. -/
def more (m : Nat → Bool) (k : Nat) : Nat → Bool := fun x => m x || x == k
/-- A set and all from one to another. -/
def span (m : Nat → Bool) (x y : Nat) : Nat → Bool := fun z => m z || (decide (x ≤ z) && decide (z < y))

theorem two_pow_lt (k : Nat) : 2 ^ (k % 64) < 2 ^ 64 := Nat.pow_lt_pow_right (by decide) (Nat.mod_lt _ (by decide))

theorem two_pow_lt' (k : Nat) : 2 ^ (k % 64) < 18446744073709551616 := Nat.lt_of_lt_of_eq (two_pow_lt k) p64

theorem wrap_pow (k : Nat) : IntKind.u64.wrap (2 ^ (k % 64)) = ((2 ^ (k % 64) : Nat) : Int) := by
  have h := two_pow_lt' k
  rw [IntKind.wrap_u64, show ((2 : Int) ^ (k % 64)) = ((2 ^ (k % 64) : Nat) : Int) by norm_cast]
  generalize 2 ^ (k % 64) = z at h
  omega

theorem more_same (m : Nat → Bool) (k : Nat) : bits .or .u64 (wd m (k / 64) : Int) (IntKind.u64.wrap (2 ^ (k % 64))) = (wd (more m k) (k / 64) : Int) := by
  have h1 := wd_lt m (k / 64)
  have h2 := two_pow_lt k
  rw [wrap_pow, u64_or_nat _ _ (wd_lt' _ _) (two_pow_lt' k)]
  refine congrArg (fun n : Nat => (n : Int)) (wd_ext (Nat.or_lt_two_pow h1 h2) fun j hj => ?_)
  have e : decide (k % 64 = j) = (64 * (k / 64) + j == k) := by
    rw [Bool.eq_iff_iff]; simp only [decide_eq_true_eq, beq_iff_eq]
    have := Nat.div_add_mod k 64
    omega
  rw [Nat.testBit_or, wd_bit, Nat.testBit_two_pow, e, decide_eq_true hj, Bool.true_and]
  rfl

theorem more_other (m : Nat → Bool) (k i : Nat) (h : i ≠ k / 64) : wd (more m k) i = wd m i :=
  wd_congr fun j hj => by
    have : (64 * i + j == k) = false := by rw [beq_eq_false_iff_ne]; omega
    simp [more, this]

theorem has_bit (m : Nat → Bool) (x : Nat) : (bits .and .u64 ((wd m (x / 64) : Int) / 2 ^ (x % 64)) 1 == 1) = m x := by
  have e : ((wd m (x / 64) : Int) / 2 ^ (x % 64)) = ((wd m (x / 64) / 2 ^ (x % 64) : Nat) : Int) := by norm_cast
  have h2 : wd m (x / 64) / 2 ^ (x % 64) < 18446744073709551616 := Nat.lt_of_le_of_lt (Nat.div_le_self _ _) (wd_lt' _ _)
  rw [e, show (1 : Int) = ((1 : Nat) : Int) by rfl, u64_and_nat _ _ h2 (by decide)]
  have hb := wd_bit m (x / 64) (x % 64)
  rw [Nat.testBit_eq_decide_div_mod_eq] at hb
  have hx : x % 64 < 64 := Nat.mod_lt _ (by decide)
  rw [Nat.div_add_mod] at hb
  simp only [hx, decide_true, Bool.true_and] at hb
  rw [Nat.and_one_is_mod, ← hb, Bool.eq_iff_iff, beq_iff_eq, decide_eq_true_eq]
  omega

theorem span_none (m : Nat → Bool) (x : Nat) : span m x x = m := by
  funext z; simp only [span]
  have : (decide (x ≤ z) && decide (z < x)) = false := by rw [Bool.eq_false_iff]; simp
  rw [this]; exact Bool.or_false _

theorem span_more (m : Nat → Bool) (x y : Nat) (h : x ≤ y) : more (span m x y) y = span m x (y + 1) := by
  funext z; simp only [span, more]
  rw [Bool.eq_iff_iff]; simp only [Bool.or_eq_true, Bool.and_eq_true, decide_eq_true_eq, beq_iff_eq]
  cases m z <;> simp
  omega

theorem wrap_i64_nat (k : Nat) (h : k < 9223372036854775808) : IntKind.i64.wrap (k : Int) = (k : Int) := by rw [IntKind.wrap_i64]; omega

theorem wrap_i64_succ (k k1 : Nat) (e : k1 = k + 1) (h : k < 4611686018427387904) : IntKind.i64.wrap ((k : Int) + 1) = (k1 : Int) := by rw [IntKind.wrap_i64]; omega

/-- What a call leaves as it was: all blocks that were there, but those of a list. -/
structure Kp (S : List Nat) (w w' : World) : Prop where
  os : w'.os = w.os
  tape : w'.tape = w.tape
  output : w'.output = w.output
  size : w.heap.size ≤ w'.heap.size
  block : ∀ k, k < w.heap.size → k ∉ S → w'.heap[k]? = w.heap[k]?

theorem Kp.refl (S : List Nat) (w : World) : Kp S w w := ⟨rfl, rfl, rfl, Nat.le_refl _, fun _ _ _ => rfl⟩
theorem Kp.trans {S : List Nat} {a b c : World} (h : Kp S a b) (k : Kp S b c) : Kp S a c :=
  ⟨k.os.trans h.os, k.tape.trans h.tape, k.output.trans h.output, Nat.le_trans h.size k.size,
    fun i hi hn => (k.block i (Nat.lt_of_lt_of_le hi h.size) hn).trans (h.block i hi hn)⟩
theorem Kp.mono {S T : List Nat} {w w' : World} (h : Kp S w w') (hs : ∀ x, x ∈ S → x ∈ T) : Kp T w w' :=
  ⟨h.os, h.tape, h.output, h.size, fun i hi hn => h.block i hi (fun hx => hn (hs i hx))⟩
/-- The call's own blocks need not be named. -/
theorem Kp.own {S : List Nat} {x : Nat} {a b : World} (h : Kp (x :: S) a b) (hx : a.heap.size ≤ x) : Kp S a b :=
  ⟨h.os, h.tape, h.output, h.size, fun i hi hn => h.block i hi (fun hm => by
    rcases List.mem_cons.1 hm with e | e
    · omega
    · exact hn e)⟩
theorem Kp.drewN (S : List Nat) (w : World) (n : Nat) : Kp S w (w.drewN n) := by
  refine ⟨rfl, rfl, rfl, Nat.le_refl _, fun _ _ _ => rfl⟩
theorem Kp.drew (S : List Nat) (w : World) : Kp S w w.drew := ⟨rfl, rfl, rfl, Nat.le_refl _, fun _ _ _ => rfl⟩
theorem Kp.alloc (S : List Nat) (w : World) (o : Obj) : Kp S w (w.alloc o) :=
  ⟨rfl, rfl, rfl, by simp, fun k hk _ => Below.heap_alloc _ _ _ hk⟩
theorem Kp.setCell {S : List Nat} (w : World) {p : Addr} (u : Value) (hp : p.block ∈ S) : Kp S w (w.setCell p u) :=
  ⟨rfl, rfl, rfl, by simp [World.setCell], fun k _ hn => Below.heap_setCell _ _ _ _ (fun e => hn (e ▸ hp))⟩
theorem Kp.cell {S : List Nat} {w w' : World} (h : Kp S w w') {p : Addr} (hp : p.block < w.heap.size) (hn : p.block ∉ S) : w'.cell? p = w.cell? p :=
  World.cell?_of_block (w := w) (h.block p.block hp hn)
theorem Kp.frozen {S : List Nat} {w w' : World} (h : Kp S w w') {p : Addr} (hp : p.block < w.heap.size) (hn : p.block ∉ S) : w'.frozen? p = w.frozen? p :=
  World.frozen?_of_block (w := w) (h.block p.block hp hn)
theorem Kp.below {w w' : World} (h : Kp [] w w') : Below w.heap.size w w' :=
  ⟨h.os, h.tape, h.output, h.size, fun k hk => h.block k hk (by simp)⟩
theorem Kp.of_below {w w' : World} (h : Below w.heap.size w w') : Kp [] w w' :=
  ⟨h.os, h.tape, h.output, h.size, fun k hk _ => h.block k hk⟩

/-- The set of bytes m lies in block b. -/
structure St (w : World) (b : Nat) (m : Nat → Bool) : Prop where
  lt : b < w.heap.size
  cell : ∀ i, i < 4 → w.cell? ⟨b, i, none⟩ = some (.int .u64 (wd m i))
  free : ∀ i, w.frozen? ⟨b, i, none⟩ = false

theorem St.keep {S : List Nat} {w w' : World} {b : Nat} {m : Nat → Bool} (h : St w b m) (k : Kp S w w') (hn : b ∉ S) : St w' b m :=
  ⟨Nat.lt_of_lt_of_le h.lt k.size, fun i hi => by rw [k.cell h.lt hn]; exact h.cell i hi, fun i => by rw [k.frozen h.lt hn]; exact h.free i⟩

/-- A reader of src lies in block b: it looks at place k, and has met g groups. -/
structure Rd (w : World) (b : Nat) (src : ByteArray) (k g : Nat) : Prop where
  lt : b < w.heap.size
  le : k ≤ src.size
  small : src.size ≤ 2000
  c0 : w.cell? ⟨b, 0, none⟩ = some (.string src)
  c1 : w.cell? ⟨b, 1, none⟩ = some (.int .i64 k)
  ce : w.cell? ⟨b, 2, none⟩ = some (.int .i64 2)
  c2 : w.cell? ⟨b, 3, none⟩ = some (.int .i64 g)
  free : ∀ i, w.frozen? ⟨b, i, none⟩ = false

theorem Rd.keep {S : List Nat} {w w' : World} {b : Nat} {src : ByteArray} {k g : Nat} (h : Rd w b src k g) (q : Kp S w w') (hn : b ∉ S) : Rd w' b src k g :=
  ⟨Nat.lt_of_lt_of_le h.lt q.size, h.le, h.small, by rw [q.cell h.lt hn]; exact h.c0, by rw [q.cell h.lt hn]; exact h.c1, by rw [q.cell h.lt hn]; exact h.ce, by rw [q.cell h.lt hn]; exact h.c2, fun i => by rw [q.frozen h.lt hn]; exact h.free i⟩

/-- Does the byte x stand at place k? -/
def saw (s : ByteArray) (k : Nat) (x : Int) : Bool := if h : k < s.size then ((s[k]).toNat : Int) == x else false

theorem saw_lt {s : ByteArray} {k : Nat} {x : Int} (h : saw s k x = true) : k < s.size := by
  unfold saw at h; split at h
  · assumption
  · simp at h

theorem cell_same {w : World} {a : Addr} {u : Value} (v : Value) (h : w.cell? a = some u) : (w.setCell a v).cell? a = some v := World.cell?_setCell_same' w a v (by simp [h])
theorem cell_other {w : World} {a c : Addr} (v : Value) (h : a ≠ c) : (w.setCell a v).cell? c = w.cell? c := World.cell?_setCell_other _ _ _ _ h

theorem Rd.step {w : World} {b : Nat} {src : ByteArray} {k g : Nat} (h : Rd w b src k g) (hk : k < src.size) : Rd (w.setCell ⟨b, 1, none⟩ (.int .i64 ((k : Int) + 1))) b src (k + 1) g := by
  refine ⟨by simpa [World.setCell] using h.lt, by omega, h.small, ?_, ?_, ?_, ?_, fun i => by simpa using h.free i⟩
  · rw [cell_other _ (by simp)]; exact h.c0
  · rw [cell_same _ h.c1]; simp
  · rw [cell_other _ (by simp)]; exact h.ce
  · rw [cell_other _ (by simp)]; exact h.c2

theorem Rd.drewN {w : World} {b : Nat} {src : ByteArray} {k g : Nat} (h : Rd w b src k g) (n : Nat) : Rd (w.drewN n) b src k g := h.keep (Kp.drewN [] w n) (by simp)
theorem Rd.drew {w : World} {b : Nat} {src : ByteArray} {k g : Nat} (h : Rd w b src k g) : Rd w.drew b src k g := h.keep (Kp.drew [] w) (by simp)

end Go.Proofs.YtonnimbcekhbgaaGreatDoor

/- The small functions of the reader: contracts over the cells of its block. -/
namespace Go.Proofs.YtonnimbcekhbgaaGreatDoor
open Go.RowKit

set_option maxHeartbeats 400000 in
theorem ended_any (b : Nat) (src : ByteArray) (k : Nat) (w : World)
    (c0 : w.cell? ⟨b, 0, none⟩ = some (.string src)) (c1 : w.cell? ⟨b, 1, none⟩ = some (.int .i64 k)) :
    Calls Tryz.prog 79 #[.pointer (some ⟨b, 0, none⟩)] w fun e w' => e = .returned (.bool ((k : Int) == (src.size : Int))) ∧ ∃ n, w' = w.drewN n := by
  go_enter Tryz.func79, Tryz.ntmps79
  go_wp2
  go_quiet (fail)
  go_wp2
  go_ret
  exact ⟨rfl, _, rfl⟩

set_option maxHeartbeats 400000 in
theorem sees_end (b : Nat) (src : ByteArray) (k : Nat) (x : Int) (w : World)
    (c0 : w.cell? ⟨b, 0, none⟩ = some (.string src)) (c1 : w.cell? ⟨b, 1, none⟩ = some (.int .i64 k)) (hk : k = src.size) :
    Calls Tryz.prog 104 #[.pointer (some ⟨b, 0, none⟩), .int .u8 x] w fun e w' => e = .returned (.bool false) ∧ ∃ n, w' = w.drewN n := by
  have hb : ((k : Int) == (src.size : Int)) = true := by simp [hk]
  have HK : Hid (k = src.size) := hk
  clear hk
  go_enter Tryz.func104, Tryz.ntmps104
  go_wp2
  go_quiet ((go_at_call 79; exact Calls.quiet_of (ended_any b src k _ (by simpa using c0) (by simpa using c1))))
  go_wp2
  go_ret
  exact ⟨rfl, _, rfl⟩

set_option maxHeartbeats 400000 in
theorem sees_in (b : Nat) (src : ByteArray) (k : Nat) (x : Int) (w : World)
    (c0 : w.cell? ⟨b, 0, none⟩ = some (.string src)) (c1 : w.cell? ⟨b, 1, none⟩ = some (.int .i64 k)) (hk : k < src.size) :
    Calls Tryz.prog 104 #[.pointer (some ⟨b, 0, none⟩), .int .u8 x] w fun e w' => e = .returned (.bool (((src[k]).toNat : Int) == x)) ∧ ∃ n, w' = w.drewN n := by
  have hb : ((k : Int) == (src.size : Int)) = false := by simp; omega
  go_enter Tryz.func104, Tryz.ntmps104
  go_wp2
  go_quiet ((go_at_call 79; exact Calls.quiet_of (ended_any b src k _ (by simpa using c0) (by simpa using c1))))
  go_wp2
  go_ret
  exact ⟨rfl, _, rfl⟩

theorem sees_any {b : Nat} {src : ByteArray} {k g : Nat} (x : Int) {w : World} (hr : Rd w b src k g) :
    Calls Tryz.prog 104 #[.pointer (some ⟨b, 0, none⟩), .int .u8 x] w fun e w' => e = .returned (.bool (saw src k x)) ∧ ∃ n, w' = w.drewN n := by
  by_cases hk : k < src.size
  · have := sees_in b src k x w hr.c0 hr.c1 hk
    simpa [saw, hk] using this
  · have := sees_end b src k x w hr.c0 hr.c1 (by have := hr.le; omega)
    simpa [saw, hk] using this

set_option maxHeartbeats 400000 in
theorem take_no {b : Nat} {src : ByteArray} {k g : Nat} (x : Int) {w : World} (hr : Rd w b src k g) (h : saw src k x = false) :
    Calls Tryz.prog 116 #[.pointer (some ⟨b, 0, none⟩), .int .u8 x] w fun e w' => e = .returned (.bool false) ∧ Rd w' b src k g ∧ Kp [b] w w' := by
  have H : Hid _ := h
  go_enter Tryz.func116, Tryz.ntmps116
  go_wp2_with (go_at_call 104; refine (sees_any x hr).mono ?_; rintro e w1 ⟨rfl, n, rfl⟩)
  go_ret
  exact ⟨rfl, hr.drewN n, Kp.drewN _ _ _⟩

set_option maxHeartbeats 400000 in
theorem take_yes {b : Nat} {src : ByteArray} {k g : Nat} (x : Int) {w : World} (hr : Rd w b src k g) (h : saw src k x = true) :
    Calls Tryz.prog 116 #[.pointer (some ⟨b, 0, none⟩), .int .u8 x] w fun e w' => e = .returned (.bool true) ∧ Rd w' b src (k + 1) g ∧ Kp [b] w w' := by
  have c1 := hr.c1
  have f1 := hr.free 1
  have hk := saw_lt h
  have hsm := hr.small
  go_enter Tryz.func116, Tryz.ntmps116
  go_wp2_with (go_at_call 104; refine (sees_any x hr).mono ?_; rintro e w1 ⟨rfl, n, rfl⟩)
  go_ret
  exact ⟨rfl, (hr.drewN n).step hk, (Kp.drewN _ _ _).trans (Kp.setCell _ _ (by simp))⟩

theorem ended_q {b : Nat} {src : ByteArray} {k g : Nat} {w : World} (hr : Rd w b src k g) (n : Nat) :
    Calls Tryz.prog 79 #[.pointer (some ⟨b, 0, none⟩)] (w.drewN n) fun e w'' => e = .returned (.bool ((k : Int) == (src.size : Int))) ∧ ∃ m, w'' = w.drewN m :=
  Calls.quiet_of (ended_any b src k _ (hr.drewN n).c0 (hr.drewN n).c1)

theorem sees_q {b : Nat} {src : ByteArray} {k g : Nat} (x : Int) {w : World} (hr : Rd w b src k g) {v : Bool} (h : saw src k x = v) (n : Nat) :
    Calls Tryz.prog 104 #[.pointer (some ⟨b, 0, none⟩), .int .u8 x] (w.drewN n) fun e w'' => e = .returned (.bool v) ∧ ∃ m, w'' = w.drewN m := by
  subst h
  exact Calls.quiet_of (sees_any x (hr.drewN n))

theorem ended_r {b : Nat} {src : ByteArray} {k g : Nat} {w : World} (hr : Rd w b src k g) {v : Bool} (h : ((k : Int) == (src.size : Int)) = v) :
    Calls Tryz.prog 79 #[.pointer (some ⟨b, 0, none⟩)] w fun e w' => e = .returned (.bool v) ∧ Rd w' b src k g ∧ Kp [b] w w' := by
  subst h
  exact (ended_any b src k w hr.c0 hr.c1).mono fun e w' ⟨he, n, hw⟩ => ⟨he, by rw [hw]; exact hr.drewN n, by rw [hw]; exact Kp.drewN _ _ _⟩

theorem sees_r {b : Nat} {src : ByteArray} {k g : Nat} (x : Int) {w : World} (hr : Rd w b src k g) {v : Bool} (h : saw src k x = v) :
    Calls Tryz.prog 104 #[.pointer (some ⟨b, 0, none⟩), .int .u8 x] w fun e w' => e = .returned (.bool v) ∧ Rd w' b src k g ∧ Kp [b] w w' := by
  subst h
  exact (sees_any x hr).mono fun e w' ⟨he, n, hw⟩ => ⟨he, by rw [hw]; exact hr.drewN n, by rw [hw]; exact Kp.drewN _ _ _⟩
end Go.Proofs.YtonnimbcekhbgaaGreatDoor
