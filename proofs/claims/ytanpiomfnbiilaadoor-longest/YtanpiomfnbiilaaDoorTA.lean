/- One text out of several: TA TB TC TD TE. -/
import Derived.Test.YtanpiomfnbiilaaDoorSA
import Derived.Laws.IdiomStrings
import Derived.Deep.RegionWith

/- Numbers as they are written. -/
namespace Go.Proofs.YtanpiomfnbiilaaDoor
open Go.RowKit

/-- A number up to 99 as it is written. -/
def dg (n : Nat) : ByteArray := if n < 10 then ⟨#[(48 + n).toUInt8]⟩ else ⟨#[(48 + n / 10).toUInt8, (48 + n % 10).toUInt8]⟩

theorem conv_nat (W : World) (c : Nat) (hc : c < 256) : (convert 28 9 (.slice (some ⟨W.heap.size, 0, none⟩) 1 1)).run Tryd.prog (W.alloc (.cells #[.int .u8 (c : Int)] 5)) = .ok (.string ⟨#[c.toUInt8]⟩) (W.alloc (.cells #[.int .u8 (c : Int)] 5)) := by
  have h := conv_byte W c.toUInt8
  have e : ((c.toUInt8).toNat : Int) = (c : Int) := by
    have : (c.toUInt8).toNat = c := by show c % 256 = c; omega
    rw [this]
  rw [e] at h
  exact h

theorem conv_cell (c : Nat) (hc : c < 256) (W : World) (g : Nat) (h : W.cell? ⟨g, 0, none⟩ = some (.int .u8 (c : Int))) : (convert 28 9 (.slice (some ⟨g, 0, none⟩) 1 1)).run Tryd.prog W = .ok (.string ⟨#[c.toUInt8]⟩) W :=
  run_convert_bytes_back (P := Tryd.prog) _ 28 9 5 ⟨g, 0, none⟩ 1 [c.toUInt8] (by kernel_rfl) (by kernel_rfl) (by kernel_rfl) (fun j hj => by
    have e : j = 0 := by simp at hj; exact hj
    subst e
    have e2 : (c.toUInt8).toNat = c := by show c % 256 = c; omega
    show W.cell? ⟨g, 0, none⟩ = some (.int .u8 ((c.toUInt8).toNat : Int))
    rw [e2]; exact h)

set_option maxRecDepth 100000 in
set_option maxHeartbeats 800000 in
theorem digits_one (n : Nat) (hn : n < 10) (w : World) : Calls Tryd.prog 14 #[.int .i64 n] w fun e w' => e = .returned (.string ⟨#[(48 + n).toUInt8]⟩) ∧ Kp [] w w' := by
  have hlt : (n : Int) < 10 := by omega
  obtain ⟨c, hc⟩ : ∃ c : Nat, c = 48 + n := ⟨_, rfl⟩
  have hsum : (48 : Int) + (n : Int) = (c : Int) := by omega
  have w1 := wrap_i64_nat c (by omega)
  have w2 := wrap_u8_nat c (by omega)
  have kc := conv_nat w c (by omega)
  rw [← hc]
  clear hc
  go_enter Tryd.func14, Tryd.ntmps14
  go_wp2
  go_ret
  exact ⟨rfl, Kp.alloc _ _ _⟩

theorem conv_lett (X : UInt8) (W : World) (g : Nat) (c : Nat) (hc : c = X.toNat) (h : W.cell? ⟨g, 0, none⟩ = some (.int .u8 (c : Int))) : (convert 28 9 (.slice (some ⟨g, 0, none⟩) 1 1)).run Tryd.prog W = .ok (.string ⟨#[X]⟩) W := by
  have hx := X.toNat_lt
  have := conv_cell c (by omega) W g h
  rw [show c.toUInt8 = X by rw [hc]; exact UInt8.ofNat_toNat] at this
  exact this

theorem conv_lett0 (X : UInt8) (W : World) (c : Nat) (hc : c = X.toNat) : (convert 28 9 (.slice (some ⟨W.heap.size, 0, none⟩) 1 1)).run Tryd.prog (W.alloc (.cells #[.int .u8 (c : Int)] 5)) = .ok (.string ⟨#[X]⟩) (W.alloc (.cells #[.int .u8 (c : Int)] 5)) := by
  have hx := X.toNat_lt
  have := conv_nat W c (by omega)
  rw [show c.toUInt8 = X by rw [hc]; exact UInt8.ofNat_toNat] at this
  exact this

set_option maxRecDepth 100000 in
set_option maxHeartbeats 1600000 in
theorem digits_two (n : Nat) (h1 : 10 ≤ n) (h2 : n < 100) (w : World) : Calls Tryd.prog 14 #[.int .i64 n] w fun e w' => e = .returned (.string ⟨#[(48 + n / 10).toUInt8, (48 + n % 10).toUInt8]⟩) ∧ Kp [] w w' := by
  have hlt : ¬ (n : Int) < 10 := by omega
  obtain ⟨q, hq⟩ : ∃ q : Nat, q = n / 10 := ⟨_, rfl⟩
  obtain ⟨r, hr⟩ : ∃ r : Nat, r = n % 10 := ⟨_, rfl⟩
  have hdiv : (n : Int) / 10 = (q : Int) := by omega
  have hmod : (n : Int).tmod 10 = (r : Int) := by rw [Int.tmod_eq_emod_of_nonneg (by omega)]; omega
  have hdiv2 : (n : Int).tdiv 10 = (q : Int) := by rw [Int.tdiv_eq_ediv_of_nonneg (by omega)]; omega
  have hq10 : q < 10 := by omega
  have D1 := digits_one q hq10
  obtain ⟨X, hX⟩ : ∃ X : UInt8, X = (48 + q).toUInt8 := ⟨_, rfl⟩
  obtain ⟨Y, hY⟩ : ∃ Y : UInt8, Y = (48 + r).toUInt8 := ⟨_, rfl⟩
  obtain ⟨c, hc⟩ : ∃ c : Nat, c = 48 + r := ⟨_, rfl⟩
  have hsum : (48 : Int) + (r : Int) = (c : Int) := by omega
  have w1 := wrap_i64_nat c (by omega)
  have w2 := wrap_u8_nat c (by omega)
  have w3 := wrap_i64_nat q (by omega)
  have w4 := wrap_i64_nat r (by omega)
  have hcY : c = Y.toNat := by rw [hY, hc]; show 48 + r = (48 + r) % 256; omega
  have kc := fun W g => conv_lett Y W g c hcY
  have kc0 := fun W => conv_lett0 Y W c hcY
  rw [← hq, ← hr, ← hX, ← hY]
  simp only [← hX] at D1
  have hlen : ¬ 9223372036854775807 < (⟨#[X]⟩ : ByteArray).size + (⟨#[Y]⟩ : ByteArray).size := by show ¬ 9223372036854775807 < 1 + 1; omega
  have happ : (⟨#[X]⟩ : ByteArray) ++ ⟨#[Y]⟩ = ⟨#[X, Y]⟩ := rfl
  clear hc hq hr hX hY hcY
  go_enter Tryd.func14, Tryd.ntmps14
  go_wp2
  have kn0 := kc0 w
  have kn1 := kc0 w.drew
  go_region_with (go_at_call 14; refine (D1 _).mono ?_; rintro e w5 ⟨rfl, k5⟩; have kn5 := kc0 w5; have ck := k5.cell (p := ⟨w.heap.size, 0, none⟩); (try simp at ck))
  all_goals (try go_wp2)
  all_goals go_ret
  all_goals refine ⟨?_, ?_⟩
  all_goals first | rfl | skip
  all_goals first | exact (Kp.drew _ _).trans (k5.trans (Kp.alloc _ _ _)) | exact (Kp.drew _ _).trans ((Kp.alloc _ _ _).trans k5)

theorem digits_any (n : Nat) (h2 : n < 100) (w : World) : Calls Tryd.prog 14 #[.int .i64 n] w fun e w' => e = .returned (.string (dg n)) ∧ Kp [] w w' := by
  by_cases h : n < 10
  · have := digits_one n h w
    rw [show dg n = ⟨#[(48 + n).toUInt8]⟩ by unfold dg; rw [if_pos h]]
    exact this
  · have := digits_two n (by omega) h2 w
    rw [show dg n = ⟨#[(48 + n / 10).toUInt8, (48 + n % 10).toUInt8]⟩ by unfold dg; rw [if_neg h]]
    exact this
end Go.Proofs.YtanpiomfnbiilaaDoor

/- What nodes do, by their kinds. Pure. -/
namespace Go.Proofs.YtanpiomfnbiilaaDoor
open Go.RowKit

/-- The node p does as M says. -/
def SmP (text : ByteArray) (p : Pi) (M : Nat → Rl) : Prop := Sm text p.len p.dd p.em M

section
variable {text : ByteArray} {A B C : Rl} {i tk j tk' : Nat} {x x' : Nat → Int}

theorem rl_ext (h : ∀ i tk x j tk' x', A i tk x j tk' x' ↔ B i tk x j tk' x') : A = B := by
  funext i tk x j tk' x'
  exact propext (h i tk x j tk' x')
theorem mSeq_assoc : mSeq (mSeq A B) C = mSeq A (mSeq B C) := rl_ext fun _ _ _ _ _ _ =>
  ⟨fun ⟨_, _, _, ⟨_, _, _, a, b⟩, c⟩ => ⟨_, _, _, a, _, _, _, b, c⟩, fun ⟨_, _, _, a, _, _, _, b, c⟩ => ⟨_, _, _, ⟨_, _, _, a, b⟩, c⟩⟩
theorem mSeq_id : mSeq A mId = A := rl_ext fun _ _ _ _ _ _ =>
  ⟨fun ⟨_, _, _, a, h1, h2, h3⟩ => by rw [h1, h2, h3]; exact a, fun a => ⟨_, _, _, a, rfl, rfl, rfl⟩⟩
theorem id_mSeq : mSeq mId A = A := rl_ext fun _ _ _ _ _ _ =>
  ⟨fun ⟨_, _, _, ⟨h1, h2, h3⟩, a⟩ => by rw [h1, h2, h3] at a; exact a, fun a => ⟨_, _, _, ⟨rfl, rfl, rfl⟩, a⟩⟩

/-- A row, piece after piece. -/
def mRowF : List (Nat → Rl) → Nat → Rl
  | [], _ => mId
  | m :: ms, d => mSeq (m d) (mRowF ms d)
theorem mRow_snoc (m : Nat → Rl) (d : Nat) : ∀ l : List (Nat → Rl), mRow (l ++ [m]) d = mSeq (m d) (mRow l d)
  | [] => by show mSeq mId (m d) = mSeq (m d) mId; rw [mSeq_id, id_mSeq]
  | n :: l => by
    show mSeq (mRow (l ++ [m]) d) (n d) = mSeq (m d) (mSeq (mRow l d) (n d))
    rw [mRow_snoc m d l, mSeq_assoc]
theorem mRow_rev (d : Nat) : ∀ l : List (Nat → Rl), mRow l.reverse d = mRowF l d
  | [] => rfl
  | m :: l => by rw [List.reverse_cons, mRow_snoc, mRow_rev d l]; rfl

theorem lenL_rev (l : List It) : lenL l.reverse = lenL l := by unfold lenL; rw [List.map_reverse, List.sum_reverse]
theorem ddL_rev : ∀ l : List It, ddL l.reverse = ddL l
  | [] => rfl
  | p :: l => by
    rw [List.reverse_cons, ddL_append, ddL_rev l]
    show max (ddL l) (max p.dd 0) = max p.dd (ddL l)
    omega

theorem smP_one (m : Nat → Bool) : SmP text (piOne m) (mOne text m) := sm_one m
theorem smP_edge (k : Nat) (hk : k = 1 ∨ k = 2) : SmP text (piEdge k) (fun _ => mEdge text k) := sm_edge k hk
theorem smP_group {g : Nat} {p : Pi} {M : Nat → Rl} (h : SmP text p M) (hg0 : 1 ≤ g) (hg : g ≤ 9) : SmP text (piGroup g p) (fun d => mGroup g (M d)) := sm_group (len := p.len) h hg0 hg
theorem smP_rep {p : Pi} {M : Nat → Rl} (h : SmP text p M) (least : Nat) (most : Option Nat) (hok : ∀ m, most = some m → least ≤ m) : SmP text (piRep p least most) (mRep M least most) := by
  have q := sm_rep (len := p.len) h least most hok
  cases most with
  | none => exact q
  | some m => exact q

/-- A node, and what it does. -/
abbrev Mn := Pi × (Nat → Rl)
theorem smP_row (l : List Mn) (h : ∀ p ∈ l, SmP text p.1 p.2) : SmP text (piRow (l.map (·.1))) (mRowF (l.map (·.2))) := by
  have q := sm_row (text := text) ((l.map fun p => (p.1.it, p.2)).reverse) (fun p hp => by
    obtain ⟨r, hr, rfl⟩ := List.mem_map.1 (List.mem_reverse.1 hp)
    exact h r hr)
  rw [List.map_reverse, List.map_reverse, lenL_rev, ddL_rev, List.map_map, List.map_map] at q
  have e2 : mRow (l.map ((·.2) ∘ fun p : Mn => (p.1.it, p.2))).reverse = mRowF (l.map (·.2)) := by
    funext d
    rw [mRow_rev]
    rfl
  rw [e2] at q
  unfold SmP piRow rowIt It.pi
  rw [List.map_map]
  exact q

/-- One of some. -/
def mAny (l : List (Nat → Rl)) (d : Nat) : Rl := fun i tk x j tk' x' => ∃ m ∈ l, m d i tk x j tk' x'
theorem mBr_any (d : Nat) : ∀ (l : List (Nat → Rl)) (B : Rl), mBr l B d i tk x j tk' x' ↔ mAny l d i tk x j tk' x' ∨ B i tk x j tk' x'
  | [], B => ⟨fun h => .inr h, fun h => by
    rcases h with ⟨_, hm, _⟩ | h
    · cases hm
    · exact h⟩
  | m :: l, B => by
    show mBr l (mOr (m d) B) d i tk x j tk' x' ↔ _
    rw [mBr_any d l]
    constructor
    · rintro (⟨m', hm, h⟩ | h | h)
      · exact .inl ⟨m', by simp [hm], h⟩
      · exact .inl ⟨m, by simp, h⟩
      · exact .inr h
    · rintro (⟨m', hm, h⟩ | h)
      · rcases List.mem_cons.1 hm with rfl | hm
        · exact .inr (.inl h)
        · exact .inl ⟨m', hm, h⟩
      · exact .inr (.inr h)
theorem mBranches_any {l : List (Nat → Rl)} (hl : l ≠ []) (d : Nat) : mBranches l d = mAny l d := by
  cases l with
  | nil => exact absurd rfl hl
  | cons m l =>
    refine rl_ext fun i tk x j tk' x' => ?_
    show mBr l (m d) d i tk x j tk' x' ↔ _
    rw [mBr_any]
    constructor
    · rintro (⟨m', hm, h⟩ | h)
      · exact ⟨m', by simp [hm], h⟩
      · exact ⟨m, by simp, h⟩
    · rintro ⟨m', hm, h⟩
      rcases List.mem_cons.1 hm with rfl | hm
      · exact .inr h
      · exact .inl ⟨m', hm, h⟩
theorem mAny_rev (l : List (Nat → Rl)) (d : Nat) : mAny l.reverse d = mAny l d := rl_ext fun _ _ _ _ _ _ =>
  ⟨fun ⟨m, hm, h⟩ => ⟨m, List.mem_reverse.1 hm, h⟩, fun ⟨m, hm, h⟩ => ⟨m, List.mem_reverse.2 hm, h⟩⟩

theorem smP_branches (l : List Mn) (hl : l ≠ []) (h : ∀ p ∈ l, SmP text p.1 p.2) : SmP text (piBranches (l.map (·.1))) (mAny (l.map (·.2))) := by
  have key : ∀ L : List (It × (Nat → Rl)), L ≠ [] → (∀ p ∈ L, Sm text p.1.len p.1.dd p.1.em p.2) → Sm text (lenL (L.map (·.1)) + (L.length - 1)) (ddL (L.map (·.1))) (emBranches (L.map (·.1))) (mBranches (L.map (·.2))) := fun L hL hh => by
    cases L with
    | nil => exact absurd rfl hL
    | cons p L => exact sm_branches p L hh
  have q := key ((l.map fun p => (p.1.it, p.2)).reverse) (by simpa using hl) (fun p hp => by
    obtain ⟨r, hr, rfl⟩ := List.mem_map.1 (List.mem_reverse.1 hp)
    exact h r hr)
  rw [List.map_reverse, List.map_reverse, lenL_rev, ddL_rev, List.map_map, List.map_map, List.length_reverse, List.length_map] at q
  have e2 : mBranches (l.map ((·.2) ∘ fun p : Mn => (p.1.it, p.2))).reverse = mAny (l.map (·.2)) := by
    funext d
    rw [mBranches_any (by simpa using hl), mAny_rev]
    rfl
  rw [e2] at q
  unfold SmP piBranches branchesIt It.pi
  rw [List.map_map, List.length_map]
  exact q

/-- One of one. -/
theorem mAny_one (m : Nat → Rl) (d : Nat) : mAny [m] d = m d := rl_ext fun _ _ _ _ _ _ =>
  ⟨fun ⟨m', hm, h⟩ => by rw [List.mem_singleton.1 hm] at h; exact h, fun h => ⟨m, by simp, h⟩⟩

theorem times_comm (A : Rl) : ∀ n, mSeq A (mTimes A n) = mSeq (mTimes A n) A
  | 0 => by show mSeq A mId = mSeq mId A; rw [mSeq_id, id_mSeq]
  | n + 1 => by
    show mSeq A (mSeq (mTimes A n) A) = mSeq (mSeq (mTimes A n) A) A
    rw [← mSeq_assoc, times_comm A n]
theorem times_add (A : Rl) (m : Nat) : ∀ n, mSeq (mTimes A m) (mTimes A n) = mTimes A (m + n)
  | 0 => by show mSeq (mTimes A m) mId = _; rw [mSeq_id]; rfl
  | n + 1 => by
    show mSeq (mTimes A m) (mSeq (mTimes A n) A) = mSeq (mTimes A (m + n)) A
    rw [← mSeq_assoc, times_add A m n]

/-- Up to k times: n times for some n. -/
theorem mUp_iff (A : Rl) : ∀ (k : Nat) (B : Rl), mUp A k B i tk x j tk' x' ↔ mSeq (mTimes A k) B i tk x j tk' x' ∨ ∃ n, n < k ∧ mTimes A n i tk x j tk' x'
  | 0, B => by
    show B i tk x j tk' x' ↔ mSeq mId B i tk x j tk' x' ∨ _
    rw [id_mSeq]
    exact ⟨.inl, fun h => by
      rcases h with h | ⟨n, h, _⟩
      · exact h
      · omega⟩
  | k + 1, B => by
    show mUp A k (mOr (mSeq A B) mId) i tk x j tk' x' ↔ mSeq (mSeq (mTimes A k) A) B i tk x j tk' x' ∨ _
    rw [mUp_iff A k]
    constructor
    · rintro (⟨i1, t1, x1, h, h2 | ⟨e1, e2, e3⟩⟩ | ⟨n, hn, h⟩)
      · exact .inl (by rw [mSeq_assoc]; exact ⟨i1, t1, x1, h, h2⟩)
      · exact .inr ⟨k, by omega, by rw [e1, e2, e3]; exact h⟩
      · exact .inr ⟨n, by omega, h⟩
    · rintro (h | ⟨n, hn, h⟩)
      · rw [mSeq_assoc] at h
        obtain ⟨i1, t1, x1, h, h2⟩ := h
        exact .inl ⟨i1, t1, x1, h, .inl h2⟩
      · by_cases e : n = k
        · subst e
          exact .inl ⟨j, tk', x', h, .inr ⟨rfl, rfl, rfl⟩⟩
        · exact .inr ⟨n, by omega, h⟩

theorem mRep_some {M : Nat → Rl} {least most d : Nat} (hlm : least ≤ most) : mRep M least (some most) d i tk x j tk' x' ↔ ∃ n, least ≤ n ∧ n ≤ most ∧ mTimes (M d) n i tk x j tk' x' := by
  show mSeq (mTimes (M d) least) (mUp (M d) (most - least) mId) i tk x j tk' x' ↔ _
  constructor
  · rintro ⟨i1, t1, x1, h1, h2⟩
    rw [mUp_iff, mSeq_id] at h2
    rcases h2 with h2 | ⟨n, hn, h2⟩
    · exact ⟨least + (most - least), by omega, by omega, by rw [← times_add]; exact ⟨_, _, _, h1, h2⟩⟩
    · exact ⟨least + n, by omega, by omega, by rw [← times_add]; exact ⟨_, _, _, h1, h2⟩⟩
  · rintro ⟨n, h1, h2, h⟩
    rw [show n = least + (n - least) by omega, ← times_add] at h
    obtain ⟨i1, t1, x1, a, b⟩ := h
    refine ⟨i1, t1, x1, a, ?_⟩
    rw [mUp_iff, mSeq_id]
    by_cases e : n - least = most - least
    · exact .inl (by rw [← e]; exact b)
    · exact .inr ⟨n - least, by omega, b⟩
end
end Go.Proofs.YtanpiomfnbiilaaDoor

/- Reading, by what is left of the pattern's bytes. -/
namespace Go.Proofs.YtanpiomfnbiilaaDoor
open Go.RowKit

/-- At place k of l the bytes s are left. -/
def Sf (l : List UInt8) (k : Nat) (s : List UInt8) : Prop := l.drop k = s ∧ k + s.length = l.length
def isH (s : List UInt8) (x : Nat) : Bool := match s with
  | c :: _ => c.toNat == x
  | [] => false

section
variable {l s s' : List UInt8} {k k' g g' : Nat} {c : UInt8}
theorem Sf.tail (h : Sf l k (c :: s)) : Sf l (k + 1) s := ⟨by rw [← List.drop_drop, h.1]; rfl, by have := h.2; simp at this; omega⟩
theorem Sf.saw (h : Sf l k s) (x : Nat) : saw ⟨l.toArray⟩ k (x : Int) = isH s x := by
  have := getElem?_of_drop (j := 0) h.1
  rw [Nat.add_zero] at this
  rw [saw_list, this]
  cases s with
  | nil => rfl
  | cons c s =>
    show ((c.toNat : Int) == (x : Int)) = (c.toNat == x)
    rw [Bool.eq_iff_iff, beq_iff_eq, beq_iff_eq]
    omega
theorem Sf.size (_ : Sf l k s) : (ByteArray.mk l.toArray).size = l.length := by show l.toArray.size = l.length; simp
theorem Sf.lt (h : Sf l k (c :: s)) : k < (ByteArray.mk l.toArray).size := by rw [h.size]; have := h.2; simp at this; omega
theorem Sf.at (h : Sf l k (c :: s)) : (ByteArray.mk l.toArray)[k]'h.lt = c := (at_is (j := 0) h.1 rfl).2
theorem Sf.le (h : Sf l k s) (h' : Sf l k' s') (hl : s'.length ≤ s.length) : k ≤ k' := by have := h.2; have := h'.2; omega
theorem Sf.less (h : Sf l k s) (h' : Sf l k' s') (hl : s'.length < s.length) : k < k' := by have := h.2; have := h'.2; omega
theorem Sf.all (l : List UInt8) : Sf l 0 l := ⟨rfl, by simp⟩
theorem Sf.end (h : Sf l k []) : k = (ByteArray.mk l.toArray).size := by rw [h.size]; have := h.2; simpa using this
theorem Sf.dig (h : Sf l k s) : dig ⟨l.toArray⟩ k = match s with
    | c :: _ => decide (48 ≤ c.toNat) && decide (c.toNat ≤ 57)
    | [] => false := by
  unfold Go.Proofs.YtanpiomfnbiilaaDoor.dig
  cases s with
  | nil => rw [dif_neg (by rw [← h.end]; omega)]
  | cons c s => rw [dif_pos h.lt, h.at]

/-- From the bytes s on to the bytes s'. -/
def AtomL (s s' : List UInt8) (g g' : Nat) (p : Pi) : Prop := s'.length < s.length ∧ ∀ l k, Sf l k s → ∃ k', Sf l k' s' ∧ AtomN ⟨l.toArray⟩ k k' g g' p
def RepL (s s' : List UInt8) (f : Pi → Pi) : Prop := s'.length ≤ s.length ∧ ∀ l k g, Sf l k s → ∃ k', Sf l k' s' ∧ RepN ⟨l.toArray⟩ k k' g f
def PieceL (s s' : List UInt8) (g g' : Nat) (p : Pi) : Prop := s'.length < s.length ∧ ∀ l k, Sf l k s → ∃ k', Sf l k' s' ∧ PieceN ⟨l.toArray⟩ k k' g g' p
def BranchL (s s' : List UInt8) (g g' : Nat) (p : Pi) : Prop := s'.length ≤ s.length ∧ ∀ l k, Sf l k s → ∃ k', Sf l k' s' ∧ BranchN ⟨l.toArray⟩ k k' g g' p
def BranchesL (s s' : List UInt8) (g g' : Nat) (p : Pi) : Prop := s'.length ≤ s.length ∧ ∀ l k, Sf l k s → ∃ k', Sf l k' s' ∧ BranchesN ⟨l.toArray⟩ k k' g g' p

abbrev piB (c : UInt8) : Pi := piOne (span noBytes c.toNat (c.toNat + 1))

theorem atomL_byte (h1 : isSpec c = false) (h2 : c ≠ 10) : AtomL (c :: s) s g g (piB c) := by
  refine ⟨by simp, fun l k h => ⟨k + 1, h.tail, ?_⟩⟩
  obtain ⟨hp, hi⟩ := plain_of h1 h2
  have no : ∀ x : Nat, c.toNat ≠ x → saw ⟨l.toArray⟩ k (x : Int) = false := fun x hx => by
    rw [h.saw]; show (c.toNat == x) = false; simpa using hx
  refine atomN_byte c.toNat_lt (no 40 (by omega)) (no 46 (by omega)) (no 91 (by omega)) fun b => ?_
  have := byte_plain (b := b) (g := g) (barred := special) (behind := escaped) h.lt (no 92 (by omega)) (no 10 (by omega)) (by rw [h.at]; exact hi)
  rw [h.at] at this
  exact this

theorem repL_no (h : goodHead s.head? = true) : RepL s s id := by
  refine ⟨Nat.le_refl _, fun l k g hs => ⟨k, hs, ?_⟩⟩
  have no : ∀ x : Nat, x = 42 ∨ x = 43 ∨ x = 63 ∨ x = 123 → saw ⟨l.toArray⟩ k (x : Int) = false := fun x hx => by
    rw [hs.saw]
    cases s with
    | nil => rfl
    | cons c s =>
      have h : decide (c.toNat ≠ 42 ∧ c.toNat ≠ 43 ∧ c.toNat ≠ 63 ∧ c.toNat ≠ 123) = true := h
      have h := of_decide_eq_true h
      show (c.toNat == x) = false
      rw [beq_eq_false_iff_ne]
      omega
  exact repN_no (no 42 (by omega)) (no 43 (by omega)) (no 63 (by omega)) (no 123 (by omega))
theorem repL_plus : RepL (43 :: s) s (fun p => piRep p 1 none) :=
  ⟨by simp, fun _ k _ h => ⟨k + 1, h.tail, repN_plus (by rw [show (42 : Int) = (42 : Nat) from rfl, h.saw]; rfl) (by rw [show (43 : Int) = (43 : Nat) from rfl, h.saw]; rfl)⟩⟩

theorem pieceL_atom {f : Pi → Pi} {s1 : List UInt8} {p : Pi} (h94 : isH s 94 = false) (h36 : isH s 36 = false) (ha : AtomL s s1 g g' p) (hf : RepL s1 s' f) : PieceL s s' g g' (f p) := by
  refine ⟨Nat.lt_of_le_of_lt hf.1 ha.1, fun l k h => ?_⟩
  obtain ⟨k1, h1, a1⟩ := ha.2 l k h
  obtain ⟨k2, h2, a2⟩ := hf.2 l k1 g' h1
  exact ⟨k2, h2, pieceN_atom ((h.saw 94).trans h94) ((h.saw 36).trans h36) a1 a2⟩
theorem pieceL_begin : PieceL (94 :: s) s g g (piEdge 1) :=
  ⟨by simp, fun _ k h => ⟨k + 1, h.tail, pieceN_begin ((h.saw 94).trans rfl)⟩⟩
theorem pieceL_end : PieceL (36 :: s) s g g (piEdge 2) :=
  ⟨by simp, fun _ k h => ⟨k + 1, h.tail, pieceN_end ((h.saw 94).trans rfl) ((h.saw 36).trans rfl)⟩⟩

/-- A row of pieces. -/
def RowL (s' : List UInt8) (g' : Nat) : List UInt8 → Nat → List Pi → Prop
  | s, g, [] => s' = s ∧ g' = g ∧ (s = [] ∨ isH s 124 = true ∨ isH s 41 = true)
  | s, g, p :: ps => s ≠ [] ∧ isH s 124 = false ∧ isH s 41 = false ∧ ∃ s1 g1, PieceL s s1 g g1 p ∧ RowL s' g' s1 g1 ps
theorem rowL_row : ∀ (ps : List Pi) (s : List UInt8) (g k : Nat), RowL s' g' s g ps → Sf l k s → ∃ k', Sf l k' s' ∧ s'.length ≤ s.length ∧ RowN ⟨l.toArray⟩ k' g' k g ps
  | [], s, g, k, ⟨h1, h2, h3⟩, hs => by
    subst h1
    refine ⟨k, hs, Nat.le_refl _, rfl, h2, ?_⟩
    rcases h3 with h | h | h
    · subst h; exact .inl hs.end
    · have : s' ≠ [] := by rintro rfl; cases h
      obtain ⟨c, t, rfl⟩ := List.exists_cons_of_ne_nil this
      exact .inr (.inl ⟨hs.lt, (hs.saw 124).trans h⟩)
    · have : s' ≠ [] := by rintro rfl; cases h
      obtain ⟨c, t, rfl⟩ := List.exists_cons_of_ne_nil this
      have h41 : c.toNat = 41 := by simpa [isH] using h
      exact .inr (.inr ⟨hs.lt, (hs.saw 124).trans (by simp [isH, h41]), (hs.saw 41).trans h⟩)
  | p :: ps, s, g, k, ⟨h1, h2, h3, s1, g1, hp, hr⟩, hs => by
    obtain ⟨c, t, rfl⟩ := List.exists_cons_of_ne_nil h1
    obtain ⟨k1, hs1, p1⟩ := hp.2 l k hs
    obtain ⟨k', hs', hle, r⟩ := rowL_row ps s1 g1 k1 hr hs1
    exact ⟨k', hs', Nat.le_trans hle (Nat.le_of_lt hp.1), hs.lt, (hs.saw 124).trans h2, (hs.saw 41).trans h3, k1, g1, hs.less hs1 hp.1, p1, r⟩
theorem rowL_len : ∀ (ps : List Pi) (s : List UInt8) (g : Nat), RowL s' g' s g ps → s'.length ≤ s.length
  | [], _, _, ⟨h1, _⟩ => by rw [h1]; exact Nat.le_refl _
  | _ :: ps, _, _, ⟨_, _, _, s1, g1, hp, hr⟩ => Nat.le_trans (rowL_len ps s1 g1 hr) (Nat.le_of_lt hp.1)
theorem branchL_row {ps : List Pi} (h : RowL s' g' s g ps) (hl : ps.length ≤ 200) : BranchL s s' g g' (piRow ps) :=
  ⟨rowL_len ps s g h, fun _ k hs => by
    obtain ⟨k', hs', _, r⟩ := rowL_row ps s g k h hs
    exact ⟨k', hs', branchN_row r hl⟩⟩

/-- Branches behind the first one. -/
def BrsL (s' : List UInt8) (g' : Nat) : List UInt8 → Nat → List Pi → Prop
  | s, g, [] => s' = s ∧ g' = g ∧ isH s 124 = false
  | s, g, p :: ps => ∃ s0 s1 g1, s = 124 :: s0 ∧ BranchL s0 s1 g g1 p ∧ BrsL s' g' s1 g1 ps
theorem brsL_brs : ∀ (ps : List Pi) (s : List UInt8) (g k : Nat), BrsL s' g' s g ps → Sf l k s → ∃ k', Sf l k' s' ∧ s'.length ≤ s.length ∧ BrsN ⟨l.toArray⟩ k' g' k g ps
  | [], s, g, k, ⟨h1, h2, h3⟩, hs => by
    subst h1
    exact ⟨k, hs, Nat.le_refl _, rfl, h2, (hs.saw 124).trans h3⟩
  | p :: ps, s, g, k, ⟨s0, s1, g1, e, hp, hr⟩, hs => by
    subst e
    obtain ⟨k1, hs1, p1⟩ := hp.2 l (k + 1) hs.tail
    obtain ⟨k', hs', hle, r⟩ := brsL_brs ps s1 g1 k1 hr hs1
    refine ⟨k', hs', Nat.le_trans hle (Nat.le_trans hp.1 (by simp)), (hs.saw 124).trans rfl, k1, g1, ?_, p1, r⟩
    have := hs.tail.le hs1 hp.1
    omega
theorem brsL_len : ∀ (ps : List Pi) (s : List UInt8) (g : Nat), BrsL s' g' s g ps → s'.length ≤ s.length
  | [], _, _, ⟨h1, _⟩ => by rw [h1]; exact Nat.le_refl _
  | _ :: ps, _, _, ⟨_, s1, g1, e, hp, hr⟩ => by
    have := brsL_len ps s1 g1 hr
    have := hp.1
    rw [e, List.length_cons]
    omega
theorem branchesL_all {s1 : List UInt8} {g1 : Nat} {p : Pi} {ps : List Pi} (h0 : BranchL s s1 g g1 p) (h : BrsL s' g' s1 g1 ps) (hl : ps.length ≤ 100) : BranchesL s s' g g' (piBranches (p :: ps)) := by
  refine ⟨Nat.le_trans (brsL_len ps s1 g1 h) h0.1, fun l k hs => ?_⟩
  obtain ⟨k1, hs1, b1⟩ := h0.2 l k hs
  obtain ⟨k', hs', _, r⟩ := brsL_brs ps s1 g1 k1 h hs1
  exact ⟨k', hs', branchesN_all b1 r hl⟩
theorem atomL_group {p : Pi} (hg : g < 9) (hb : BranchesL s (41 :: s') (g + 1) g' p) : AtomL (40 :: s) s' g g' (piGroup (g + 1) p) := by
  refine ⟨by have := hb.1; simp at this ⊢; omega, fun l k hs => ?_⟩
  obtain ⟨k1, hs1, b1⟩ := hb.2 l (k + 1) hs.tail
  exact ⟨k1 + 1, hs1.tail, atomN_group hg ((hs.saw 40).trans rfl) b1 ((hs1.saw 41).trans rfl)⟩

theorem bytes_eta (b : ByteArray) : (⟨b.data.toList.toArray⟩ : ByteArray) = b := rfl
theorem readsL {src : ByteArray} {G : Nat} {p : Pi} (h : BranchesL src.data.toList [] 0 G p) : ReadsN src 0 G p := by
  obtain ⟨k', hs', b⟩ := h.2 src.data.toList 0 (Sf.all _)
  rw [hs'.end] at b
  exact readsN_of b

/-- A number's bytes. -/
def dgl (n : Nat) : List UInt8 := (dg n).data.toList
theorem dgl_facts : ∀ n : Fin 21, ((dgl n).length = 1 ∧ ∃ c : Fin 256, dgl n = [UInt8.ofNat c] ∧ 48 ≤ c.val ∧ c.val ≤ 57 ∧ n.val = c.val - 48) ∨
    ∃ c d : Fin 256, dgl n = [UInt8.ofNat c, UInt8.ofNat d] ∧ 48 ≤ c.val ∧ c.val ≤ 57 ∧ 48 ≤ d.val ∧ d.val ≤ 57 ∧ n.val = 10 * (c.val - 48) + (d.val - 48) ∧ c.val - 48 ≤ 20 := by
  intro n
  by_cases h : n.val < 10
  · refine .inl ⟨?_, ⟨48 + n.val, by omega⟩, ?_, by simp, by simp; omega, by simp⟩
    · unfold dgl dg; rw [if_pos h]; rfl
    · unfold dgl dg; rw [if_pos h]
  · refine .inr ⟨⟨48 + n.val / 10, by omega⟩, ⟨48 + n.val % 10, by omega⟩, ?_, by simp, by simp; omega, by simp, by simp; omega, by simp; omega, by simp; omega⟩
    unfold dgl dg; rw [if_neg h]
theorem toNat_fin (c : Fin 256) : (UInt8.ofNat c.val).toNat = c.val := by
  show c.val % 256 = c.val
  exact Nat.mod_eq_of_lt c.isLt
/-- A number that is read. -/
theorem numL {n : Nat} (hn : n ≤ 20) (hc : ¬ (48 ≤ c.toNat ∧ c.toNat ≤ 57)) (hs : Sf l k (dgl n ++ c :: s)) : ∃ k', Sf l k' (c :: s) ∧ NumOk ⟨l.toArray⟩ k k' n := by
  have hcd : (decide (48 ≤ c.toNat) && decide (c.toNat ≤ 57)) = false := by
    rw [Bool.and_eq_false_iff, decide_eq_false_iff_not, decide_eq_false_iff_not]
    omega
  rcases dgl_facts ⟨n, by omega⟩ with ⟨_, d, e, h1, h2, h3⟩ | ⟨d, f, e, h1, h2, h3, h4, h5, h6⟩
  · rw [e] at hs
    have hd := hs.dig
    have hd2 := hs.tail.dig
    refine ⟨k + 1, hs.tail, .inl ⟨hs.lt, ?_, ?_, rfl, ?_⟩⟩
    · rw [hd]; simp [h1, h2]
    · rw [hd2]; exact hcd
    · rw [hs.at, toNat_fin]; exact h3
  · rw [e] at hs
    have hd := hs.dig
    have hd2 := hs.tail.dig
    refine ⟨k + 2, hs.tail.tail, .inr ⟨hs.lt, hs.tail.lt, ?_, ?_, rfl, ?_, ?_, hn⟩⟩
    · rw [hd]; simp [h1, h2]
    · rw [hd2]; simp [h3, h4]
    · rw [hs.at, hs.tail.at, toNat_fin, toNat_fin]; exact h5
    · rw [hs.at, toNat_fin]; exact h6

theorem repL_of {a : List UInt8} {least : Nat} {most : Option Nat} (hok : okB least most) (hl : s.length ≤ (123 :: a).length) (h : ∀ l k, Sf l k a → ∃ k', Sf l k' s ∧ BoundsOk ⟨l.toArray⟩ k k' least most) : RepL (123 :: a) s (fun p => piRep p least most) := by
  refine ⟨hl, fun l k g hs => ?_⟩
  obtain ⟨k', hs', b⟩ := h l (k + 1) hs.tail
  exact ⟨k', hs', repN_brace ((hs.saw 42).trans rfl) ((hs.saw 43).trans rfl) ((hs.saw 63).trans rfl) ((hs.saw 123).trans rfl) b hok⟩
theorem isH_dgl {n : Nat} (hn : n ≤ 20) (x : Nat) (hx : 57 < x) : isH (dgl n ++ s) x = false := by
  rcases dgl_facts ⟨n, by omega⟩ with ⟨_, d, e, h1, h2, h3⟩ | ⟨d, f, e, h1, h2, h3, h4, h5, h6⟩
  · rw [e]; show ((UInt8.ofNat d.val).toNat == x) = false; rw [toNat_fin, beq_eq_false_iff_ne]; omega
  · rw [e]; show ((UInt8.ofNat d.val).toNat == x) = false; rw [toNat_fin, beq_eq_false_iff_ne]; omega
/-- {a,b} -/
theorem repL_both {a b : Nat} (h1 : a ≤ b) (h2 : b ≤ 20) : RepL (123 :: (dgl a ++ 44 :: (dgl b ++ 125 :: s))) s (fun p => piRep p a (some b)) := by
  refine repL_of ⟨h1, h2⟩ (by simp; omega) fun l k hs => ?_
  obtain ⟨k1, hs1, n1⟩ := numL (by omega) (by decide) hs
  obtain ⟨k2, hs2, n2⟩ := numL (by omega) (by decide) hs1.tail
  exact ⟨k2 + 1, hs2.tail, k1, n1, .inr ⟨(hs1.saw 44).trans rfl, k2, ⟨(hs1.tail.saw 125).trans (isH_dgl (by omega) _ (by omega)), n2, h1⟩, (hs2.saw 125).trans rfl, rfl⟩⟩
/-- {a,} -/
theorem repL_from {a : Nat} (h2 : a ≤ 20) : RepL (123 :: (dgl a ++ 44 :: 125 :: s)) s (fun p => piRep p a none) := by
  refine repL_of h2 (by simp; omega) fun l k hs => ?_
  obtain ⟨k1, hs1, n1⟩ := numL (by omega) (by decide) hs
  exact ⟨k1 + 1 + 1, hs1.tail.tail, k1, n1, .inr ⟨(hs1.saw 44).trans rfl, k1 + 1, ⟨(hs1.tail.saw 125).trans rfl, rfl⟩, (hs1.tail.saw 125).trans rfl, rfl⟩⟩
/-- {a} -/
theorem repL_just {a : Nat} (h2 : a ≤ 20) : RepL (123 :: (dgl a ++ 125 :: s)) s (fun p => piRep p a (some a)) := by
  refine repL_of ⟨Nat.le_refl _, h2⟩ (by simp; omega) fun l k hs => ?_
  obtain ⟨k1, hs1, n1⟩ := numL (by omega) (by decide) hs
  exact ⟨k1 + 1, hs1.tail, k1, n1, .inl ⟨(hs1.saw 44).trans rfl, rfl, (hs1.saw 125).trans rfl, rfl⟩⟩
end
end Go.Proofs.YtanpiomfnbiilaaDoor

/- Bytes in turn, and what is found of them. Pure. -/
namespace Go.Proofs.YtanpiomfnbiilaaDoor
open Go.RowKit

/-- The byte c stands at place i. -/
def Bt (text : ByteArray) (i c : Nat) : Prop := ∃ h : i < text.size, (text[i]'h).toNat = c
theorem bt_iff {text : ByteArray} {i c : Nat} : Bt text i c ↔ ∃ u, text.data.toList[i]? = some u ∧ u.toNat = c := by
  constructor
  · rintro ⟨h, e⟩
    exact ⟨text[i], by rw [List.getElem?_eq_getElem (by simpa using h)]; rfl, e⟩
  · rintro ⟨u, h, e⟩
    obtain ⟨hl, hv⟩ := List.getElem?_eq_some_iff.1 h
    refine ⟨by simpa using hl, ?_⟩
    rw [← e, ← hv]; rfl
theorem Bt.lt {text : ByteArray} {i c : Nat} (h : Bt text i c) : i < text.size := h.1

section
variable {text : ByteArray} {c d i tk j tk' : Nat} {x x' : Nat → Int}

theorem mOne_iff : mOne text (span noBytes c (c + 1)) d i tk x j tk' x' ↔ Bt text i c ∧ j = i + 1 ∧ tk' = d ∧ x' = x := by
  unfold mOne Bt
  have e : ∀ y : Nat, span noBytes c (c + 1) y = true ↔ y = c := fun y => by simp [span, noBytes]; omega
  simp only [e]

theorem times_one (n : Nat) : mTimes (mOne text (span noBytes c (c + 1)) d) n i tk x j tk' x' ↔ (∀ q, q < n → Bt text (i + q) c) ∧ j = i + n ∧ tk' = (if n = 0 then tk else d) ∧ x' = x := by
  induction n generalizing j tk' x' with
  | zero =>
    show (j = i ∧ tk' = tk ∧ x' = x) ↔ _
    simp
  | succ n ih =>
    show mSeq (mTimes (mOne text (span noBytes c (c + 1)) d) n) (mOne text (span noBytes c (c + 1)) d) i tk x j tk' x' ↔ _
    constructor
    · rintro ⟨i1, t1, x1, h1, h2⟩
      rw [ih] at h1
      rw [mOne_iff] at h2
      obtain ⟨a1, rfl, _, rfl⟩ := h1
      obtain ⟨b1, rfl, rfl, rfl⟩ := h2
      refine ⟨fun q hq => ?_, rfl, by simp, rfl⟩
      by_cases e : q = n
      · rw [e]; exact b1
      · exact a1 q (by omega)
    · rintro ⟨a, rfl, h, rfl⟩
      exact ⟨i + n, _, _, ih.2 ⟨fun q hq => a q (by omega), rfl, rfl, rfl⟩, mOne_iff.2 ⟨a n (by omega), by omega, by simpa using h, rfl⟩⟩

theorem turns_sound (h : mTurns (mOne text (span noBytes c (c + 1)) (d + 1)) d i tk x j tk' x') : ∃ n, (∀ q, q < n → Bt text (i + q) c) ∧ j = i + n ∧ x' = x := by
  induction h with
  | stop => exact ⟨0, fun q hq => by omega, rfl, rfl⟩
  | turn h _ _ ih =>
    rw [mOne_iff] at h
    obtain ⟨b, rfl, _, rfl⟩ := h
    obtain ⟨n, a, rfl, rfl⟩ := ih
    refine ⟨n + 1, fun q hq => ?_, by omega, rfl⟩
    cases q with
    | zero => exact b
    | succ q =>
      have := a q (by omega)
      rw [Nat.add_assoc, Nat.add_comm 1 q] at this
      exact this
theorem turns_comp : ∀ (n i tk : Nat), (∀ q, q < n → Bt text (i + q) c) → ∃ tk', mTurns (mOne text (span noBytes c (c + 1)) (d + 1)) d i tk x (i + n) tk' x
  | 0, _, tk, _ => ⟨tk, .stop⟩
  | n + 1, i, tk, h => by
    obtain ⟨t, r⟩ := turns_comp n (i + 1) d (fun q hq => by have := h (q + 1) (by omega); rwa [show i + 1 + q = i + (q + 1) by omega])
    rw [show i + 1 + n = i + (n + 1) by omega] at r
    exact ⟨t, .turn (mOne_iff.2 ⟨h 0 (by omega), rfl, rfl, rfl⟩) (by omega) r⟩
end

/-- What is found is as P says. -/
theorem says_found {text : ByteArray} {M : Rl} {P : Nat → Nat → Prop} {a0 j0 : Nat} (hs : ∀ a j tk x, M a 0 (nz a) j tk x → P a j) (hc : ∃ tk x, M a0 0 (nz a0) j0 tk x) (h0 : a0 ≤ text.size) (hb : ∀ a j, P a j → a0 ≤ a ∧ (a0 = a → j ≤ j0)) : SaysN text M a0 j0 := by
  intro s hB
  obtain ⟨tk0, x0, hM⟩ := hc
  rcases hB with ⟨_, h⟩ | ⟨hf, a, j, tk, x, ha, hm, hbest, hx, hmax⟩
  · exact absurd hM (h a0 j0 tk0 x0 h0)
  · obtain ⟨q1, q2⟩ := hmax a0 j0 tk0 x0 h0 hM
    obtain ⟨r1, r2⟩ := hb a j (hs a j tk x hm)
    have e : a = a0 := by omega
    have e2 := r2 e.symm
    have e3 := q2 e
    refine .inr ⟨hf, by omega, ?_, ?_⟩
    · rw [hbest]; simp [nu, hx, e]
    · rw [hbest]; simp [nu]; omega
theorem says_none {text : ByteArray} {M : Rl} {fr to : Int} (hs : ∀ a j tk x, ¬ M a 0 (nz a) j tk x) (hfr : fr < 0) : SaysN text M fr to := by
  intro s hB
  rcases hB with ⟨hf, _⟩ | ⟨hf, a, j, tk, x, ha, hm, _⟩
  · exact .inl ⟨hf, hfr⟩
  · exact absurd hm (hs a j tk x)

/-- So many a's. -/
def aL (k : Nat) : List UInt8 := List.replicate k 97
theorem bt_a {text : ByteArray} {k : Nat} {post : List UInt8} (ht : text.data.toList = aL k ++ post) (hp : ∀ u ∈ post, u ≠ 97) {i : Nat} : Bt text i 97 ↔ i < k := by
  rw [bt_iff, ht]
  constructor
  · rintro ⟨u, h, e⟩
    by_cases hi : i < k
    · exact hi
    · rw [List.getElem?_append_right (by simp [aL]; omega)] at h
      exact absurd (UInt8.toNat_inj.1 (e.trans (show (97 : Nat) = (97 : UInt8).toNat from rfl))) (hp u (List.mem_of_getElem? h))
  · intro hi
    refine ⟨97, ?_, rfl⟩
    rw [List.getElem?_append_left (by simpa [aL] using hi)]
    simp [aL, hi]

/-- The piece a{a,b}, found in a row of a's. -/
theorem says_both {text : ByteArray} {k a b : Nat} {post : List UInt8} (ht : text.data.toList = aL k ++ post) (hp : ∀ u ∈ post, u ≠ 97) (hab : a ≤ b) {fr to : Int} (h1 : k < a → fr < 0) (h2 : a ≤ k → fr = 0 ∧ to = (min k b : Nat)) :
    SaysN text (mRowF [mRep (mOne text (span noBytes 97 98)) a (some b)] 0) fr to := by
  have hM : ∀ s tk x j tk' x', mRowF [mRep (mOne text (span noBytes 97 98)) a (some b)] 0 s tk x j tk' x' ↔ ∃ n, a ≤ n ∧ n ≤ b ∧ (∀ q, q < n → s + q < k) ∧ j = s + n ∧ tk' = (if n = 0 then tk else 0) ∧ x' = x := fun s tk x j tk' x' => by
    show mSeq (mRep (mOne text (span noBytes 97 98)) a (some b) 0) mId s tk x j tk' x' ↔ _
    rw [mSeq_id, mRep_some hab]
    simp only [times_one, bt_a ht hp]
  by_cases hk : k < a
  · refine says_none (fun s j tk x hm => ?_) (h1 hk)
    obtain ⟨n, e1, e2, e3, _⟩ := (hM _ _ _ _ _ _).1 hm
    have := e3 (n - 1) (by omega)
    omega
  · obtain ⟨rfl, rfl⟩ := h2 (by omega)
    refine says_found (a0 := 0) (P := fun s j => ∃ n, a ≤ n ∧ n ≤ b ∧ (∀ q, q < n → s + q < k) ∧ j = s + n) (fun s j tk x hm => ?_) ⟨_, _, (hM _ _ _ _ _ _).2 ⟨min k b, by omega, by omega, fun q hq => by omega, by omega, rfl, rfl⟩⟩ (by omega) ?_
    · obtain ⟨n, e1, e2, e3, e4, _⟩ := (hM _ _ _ _ _ _).1 hm
      exact ⟨n, e1, e2, e3, e4⟩
    · rintro s j ⟨n, e1, e2, e3, e4⟩
      refine ⟨by omega, fun e => ?_⟩
      by_cases hn : n = 0
      · omega
      · have := e3 (n - 1) (by omega)
        omega

theorem size_list (t : ByteArray) : t.size = t.data.toList.length := by simp
/-- ^a{a,}$ in a row of a's. -/
theorem says_from {text : ByteArray} {k a : Nat} (ht : text.data.toList = aL k) {fr : Int} (h1 : k < a → fr < 0) (h2 : a ≤ k → fr = 0) :
    SaysN text (mRowF [fun _ => mEdge text 1, mRep (mOne text (span noBytes 97 98)) a none, fun _ => mEdge text 2] 0) fr k := by
  have hz : text.size = k := by rw [size_list, ht]; simp [aL]
  have ht' : text.data.toList = aL k ++ [] := by rw [ht, List.append_nil]
  have hp : ∀ u ∈ ([] : List UInt8), u ≠ 97 := fun u hu => by cases hu
  have hs : ∀ s tk x j tk' x', mRowF [fun _ => mEdge text 1, mRep (mOne text (span noBytes 97 98)) a none, fun _ => mEdge text 2] 0 s tk x j tk' x' → s = 0 ∧ j = k ∧ a ≤ k := fun s tk x j tk' x' hm => by
    obtain ⟨i1, t1, x1, ⟨c1, rfl, rfl, rfl⟩, i2, t2, x2, ⟨i3, t3, x3, m3, m4⟩, i5, t5, x5, ⟨c5, rfl, rfl, rfl⟩, rfl, rfl, rfl⟩ := hm
    rw [times_one] at m3
    obtain ⟨e1, rfl, _, rfl⟩ := m3
    obtain ⟨n, e2, rfl, rfl⟩ := turns_sound m4
    have hi : i1 = 0 := by
      rcases c1 with ⟨_, h⟩ | ⟨h, _⟩
      · exact h
      · omega
    have hj : i1 + a + n = text.size := by
      rcases c5 with ⟨h, _⟩ | ⟨_, h⟩
      · omega
      · exact h
    exact ⟨hi, by omega, by omega⟩
  by_cases hk : k < a
  · refine says_none (fun s j tk x hm => ?_) (h1 hk)
    have := hs _ _ _ _ _ _ hm
    omega
  · have := h2 (by omega)
    subst this
    refine says_found (a0 := 0) (P := fun s j => s = 0 ∧ j = k ∧ a ≤ k) (fun s j tk x hm => hs _ _ _ _ _ _ hm) ?_ (by omega) (fun s j hq => ⟨by omega, fun _ => by omega⟩)
    obtain ⟨t', r⟩ := turns_comp (d := 0) (x := nz (0 : Nat)) (k - a) (0 + a) (if a = 0 then 0 else 0) (fun q hq => (bt_a ht' hp).2 (by omega))
    refine ⟨t', nz (0 : Nat), 0, 0, nz (0 : Nat), ⟨.inl ⟨rfl, rfl⟩, rfl, rfl, rfl⟩, k, t', nz (0 : Nat), ⟨0 + a, _, nz (0 : Nat), (times_one a).2 ⟨fun q hq => (bt_a ht' hp).2 (by omega), rfl, rfl, rfl⟩, ?_⟩, k, t', nz (0 : Nat), ⟨.inr ⟨rfl, hz.symm⟩, rfl, rfl, rfl⟩, rfl, rfl, rfl⟩
    rw [show 0 + a + (k - a) = k by omega] at r
    exact r
/-- ^a{a}$ in a row of a's. -/
theorem says_just {text : ByteArray} {k a : Nat} (ht : text.data.toList = aL k) {fr : Int} (h1 : k ≠ a → fr < 0) (h2 : k = a → fr = 0) :
    SaysN text (mRowF [fun _ => mEdge text 1, mRep (mOne text (span noBytes 97 98)) a (some a), fun _ => mEdge text 2] 0) fr k := by
  have hz : text.size = k := by rw [size_list, ht]; simp [aL]
  have ht' : text.data.toList = aL k ++ [] := by rw [ht, List.append_nil]
  have hp : ∀ u ∈ ([] : List UInt8), u ≠ 97 := fun u hu => by cases hu
  have hs : ∀ s tk x j tk' x', mRowF [fun _ => mEdge text 1, mRep (mOne text (span noBytes 97 98)) a (some a), fun _ => mEdge text 2] 0 s tk x j tk' x' → s = 0 ∧ j = k ∧ k = a := fun s tk x j tk' x' hm => by
    obtain ⟨i1, t1, x1, ⟨c1, rfl, rfl, rfl⟩, i2, t2, x2, m3, i5, t5, x5, ⟨c5, rfl, rfl, rfl⟩, rfl, rfl, rfl⟩ := hm
    rw [mRep_some (Nat.le_refl _)] at m3
    obtain ⟨n, n1, n2, m3⟩ := m3
    rw [times_one] at m3
    obtain ⟨e1, rfl, _, rfl⟩ := m3
    have hi : i1 = 0 := by
      rcases c1 with ⟨_, h⟩ | ⟨h, _⟩
      · exact h
      · omega
    have hj : i1 + n = text.size := by
      rcases c5 with ⟨h, _⟩ | ⟨_, h⟩
      · omega
      · exact h
    exact ⟨hi, by omega, by omega⟩
  by_cases hk : k = a
  · have := h2 hk
    subst this
    refine says_found (a0 := 0) (P := fun s j => s = 0 ∧ j = k ∧ k = a) (fun s j tk x hm => hs _ _ _ _ _ _ hm) ?_ (by omega) (fun s j hq => ⟨by omega, fun _ => by omega⟩)
    refine ⟨_, nz (0 : Nat), 0, 0, nz (0 : Nat), ⟨.inl ⟨rfl, rfl⟩, rfl, rfl, rfl⟩, k, _, nz (0 : Nat), (mRep_some (Nat.le_refl _)).2 ⟨a, Nat.le_refl _, Nat.le_refl _, (times_one a).2 ⟨fun q hq => (bt_a ht' hp).2 (by omega), by omega, rfl, rfl⟩⟩, k, _, nz (0 : Nat), ⟨.inr ⟨rfl, hz.symm⟩, rfl, rfl, rfl⟩, rfl, rfl, rfl⟩
  · refine says_none (fun s j tk x hm => ?_) (h1 hk)
    have := hs _ _ _ _ _ _ hm
    omega
end Go.Proofs.YtanpiomfnbiilaaDoor

/- What the law on repeats asks of found and of Match. -/
namespace Go.Proofs.YtanpiomfnbiilaaDoor
open Go.RowKit

section
variable {text : ByteArray} {d i tk j tk' : Nat} {x x' : Nat → Int}
abbrev abM (text : ByteArray) : Nat → Rl := fun d => mGroup 1 (mAny [mRowF [mOne text (span noBytes 97 98), mOne text (span noBytes 98 99)]] d)
theorem ab_iff : abM text d i tk x j tk' x' ↔ Bt text i 97 ∧ Bt text (i + 1) 98 ∧ j = i + 2 ∧ tk' = d ∧ x' = nu (nu x 2 i) 3 ((i + 2 : Nat) : Int) := by
  show mGroup 1 (mAny [mRowF [mOne text (span noBytes 97 98), mOne text (span noBytes 98 99)]] d) i tk x j tk' x' ↔ _
  rw [mAny_one]
  constructor
  · rintro ⟨x2, ⟨i1, t1, x1, h1, i2, t2, x2', h2, rfl, rfl, rfl⟩, rfl⟩
    rw [mOne_iff] at h1 h2
    obtain ⟨a1, rfl, rfl, rfl⟩ := h1
    obtain ⟨a2, rfl, rfl, rfl⟩ := h2
    exact ⟨a1, a2, rfl, rfl, rfl⟩
  · rintro ⟨a1, a2, rfl, rfl, rfl⟩
    exact ⟨_, ⟨_, _, _, mOne_iff.2 ⟨a1, rfl, rfl, rfl⟩, _, _, _, mOne_iff.2 ⟨a2, rfl, rfl, rfl⟩, rfl, rfl, rfl⟩, rfl⟩
theorem abs_sound (n : Nat) (h : mTimes (abM text d) n i tk x j tk' x') : j = i + 2 * n ∧ (n = 0 → x' = x) ∧ (0 < n → x' 2 = ((i + 2 * n - 2 : Nat) : Int) ∧ x' 3 = ((i + 2 * n : Nat) : Int) ∧ Bt text (i + 2 * n - 1) 98) := by
  induction n generalizing j tk' x' with
  | zero => exact ⟨h.1, fun _ => h.2.2, fun h => by omega⟩
  | succ n ih =>
    obtain ⟨i1, t1, x1, h1, h2⟩ := h
    obtain ⟨rfl, _⟩ := ih h1
    rw [ab_iff] at h2
    obtain ⟨_, b2, rfl, rfl, rfl⟩ := h2
    refine ⟨by omega, fun h => by omega, fun _ => ⟨?_, ?_, ?_⟩⟩
    · simp only [nu]; simp; omega
    · simp only [nu]; simp; omega
    · rw [show i + 2 * (n + 1) - 1 = i + 2 * n + 1 by omega]; exact b2
theorem abs_comp (n : Nat) (h : ∀ q, q < n → Bt text (i + 2 * q) 97 ∧ Bt text (i + 2 * q + 1) 98) : ∃ tk' x', mTimes (abM text d) n i tk x (i + 2 * n) tk' x' := by
  induction n with
  | zero => exact ⟨tk, x, rfl, rfl, rfl⟩
  | succ n ih =>
    obtain ⟨t1, x1, h1⟩ := ih (fun q hq => h q (by omega))
    obtain ⟨a1, a2⟩ := h n (by omega)
    exact ⟨_, _, _, _, _, h1, ab_iff.2 ⟨a1, a2, by omega, rfl, rfl⟩⟩
end

/-- a and b in turn. -/
def abL : Nat → List UInt8
  | 0 => []
  | k + 1 => abL k ++ [97, 98]
theorem abL_len : ∀ k, (abL k).length = 2 * k
  | 0 => rfl
  | k + 1 => by show (abL k ++ [97, 98]).length = _; rw [List.length_append, abL_len k]; simp; omega
theorem abL_no : ∀ k, ∀ u ∈ abL k, u ≠ 120
  | 0, _, h => by cases h
  | k + 1, u, h => by
    rcases List.mem_append.1 (show u ∈ abL k ++ [97, 98] from h) with h | h
    · exact abL_no k u h
    · simp at h
      rcases h with rfl | rfl <;> decide
theorem abL_at : ∀ k q, q < k → (abL k)[2 * q]? = some 97 ∧ (abL k)[2 * q + 1]? = some 98
  | k + 1, q, h => by
    show (abL k ++ [97, 98])[2 * q]? = some 97 ∧ (abL k ++ [97, 98])[2 * q + 1]? = some 98
    by_cases e : q = k
    · rw [List.getElem?_append_right (by rw [abL_len]; omega), List.getElem?_append_right (by rw [abL_len]; omega), abL_len, e]
      simp
    · rw [List.getElem?_append_left (by rw [abL_len]; omega), List.getElem?_append_left (by rw [abL_len]; omega)]
      exact abL_at k q (by omega)

/-- x(ab){a,b} in x, and a and b in turn. -/
theorem best_pairs {text : ByteArray} {k a b : Nat} (ht : text.data.toList = 120 :: abL k) (hab : a ≤ b) {s : Mc} (hB : Best text (mRowF [mOne text (span noBytes 120 121), mRep (abM text) a (some b)] 0) s) :
    (k < a → s.fd = false) ∧ (a ≤ k → s.fd = true ∧ s.best 0 = 0 ∧ s.best 1 = ((1 + 2 * min k b : Nat) : Int) ∧ (min k b = 0 → s.best 2 = -1 ∧ s.best 3 = -1) ∧ (0 < min k b → s.best 2 = ((1 + 2 * min k b - 2 : Nat) : Int) ∧ s.best 3 = ((1 + 2 * min k b : Nat) : Int))) := by
  have hz : text.size = 1 + 2 * k := by rw [size_list, ht, List.length_cons, abL_len]; omega
  have hx : ∀ i, Bt text i 120 ↔ i = 0 := fun i => by
    rw [bt_iff, ht]
    constructor
    · rintro ⟨u, h, e⟩
      cases i with
      | zero => rfl
      | succ i =>
        have h : (abL k)[i]? = some u := h
        exact absurd (UInt8.toNat_inj.1 (e.trans (show (120 : Nat) = (120 : UInt8).toNat from rfl))) (abL_no k u (List.mem_of_getElem? h))
    · rintro rfl
      exact ⟨120, rfl, rfl⟩
  have hs : ∀ a' j tk x, mRowF [mOne text (span noBytes 120 121), mRep (abM text) a (some b)] 0 a' 0 (nz a') j tk x → a' = 0 ∧ ∃ n, a ≤ n ∧ n ≤ b ∧ n ≤ k ∧ j = 1 + 2 * n ∧ (n = 0 → x = nz a') ∧ (0 < n → x 2 = ((1 + 2 * n - 2 : Nat) : Int) ∧ x 3 = ((1 + 2 * n : Nat) : Int)) := fun a' j tk x hm => by
    obtain ⟨i1, t1, x1, h1, i2, t2, x2, h2, rfl, rfl, rfl⟩ := hm
    rw [mOne_iff] at h1
    obtain ⟨b1, rfl, rfl, rfl⟩ := h1
    have e := (hx a').1 b1
    subst e
    rw [mRep_some hab] at h2
    obtain ⟨n, n1, n2, h2⟩ := h2
    obtain ⟨e1, e2, e3⟩ := abs_sound n h2
    refine ⟨rfl, n, n1, n2, ?_, by omega, e2, fun h => ?_⟩
    · by_cases h0 : n = 0
      · omega
      · have := (e3 (by omega)).2.2.lt
        omega
    · obtain ⟨q1, q2, _⟩ := e3 h
      exact ⟨q1, q2⟩
  have hc : ∀ n, a ≤ n → n ≤ b → n ≤ k → ∃ tk x, mRowF [mOne text (span noBytes 120 121), mRep (abM text) a (some b)] 0 0 0 (nz (0 : Nat)) (1 + 2 * n) tk x := fun n n1 n2 n3 => by
    obtain ⟨t, x, h⟩ := abs_comp (text := text) (d := 0) (i := 0 + 1) (tk := 0) (x := nz (0 : Nat)) n (fun q hq => by
      obtain ⟨q1, q2⟩ := abL_at k q (by omega)
      refine ⟨bt_iff.2 ⟨97, ?_, rfl⟩, bt_iff.2 ⟨98, ?_, rfl⟩⟩
      · rw [ht, show 0 + 1 + 2 * q = 2 * q + 1 by omega, List.getElem?_cons_succ]; exact q1
      · rw [ht, show 0 + 1 + 2 * q + 1 = 2 * q + 1 + 1 by omega, List.getElem?_cons_succ]; exact q2)
    exact ⟨t, x, 0 + 1, 0, nz (0 : Nat), mOne_iff.2 ⟨(hx 0).2 rfl, rfl, rfl, rfl⟩, _, t, x, (mRep_some hab).2 ⟨n, n1, n2, h⟩, by omega, rfl, rfl⟩
  rcases hB with ⟨hf, h⟩ | ⟨hf, a', j, tk, x, ha, hm, hbest, hx0, hmax⟩
  · refine ⟨fun _ => hf, fun hk => ?_⟩
    obtain ⟨t, x, q⟩ := hc (min k b) (by omega) (by omega) (by omega)
    exact absurd q (h 0 _ t x (by omega))
  · obtain ⟨rfl, n, n1, n2, n3, rfl, e1, e2⟩ := hs _ _ _ _ hm
    refine ⟨fun hk => by omega, fun hk => ?_⟩
    obtain ⟨t, x2, q⟩ := hc (min k b) (by omega) (by omega) (by omega)
    have := (hmax 0 _ t x2 (by omega) q).2 rfl
    have en : n = min k b := by omega
    rw [← en]
    refine ⟨hf, ?_, ?_, fun h0 => ?_, fun h0 => ?_⟩
    · rw [hbest]; simp [nu, hx0]
    · rw [hbest]; simp [nu]
    · rw [hbest, e1 h0]; simp [nu, nz]
    · obtain ⟨q1, q2⟩ := e2 h0
      rw [hbest]
      simp only [nu]
      simp [q1, q2]

theorem plain_a : isSpec 97 = false ∧ (97 : UInt8) ≠ 10 := by decide +kernel
theorem plain_b : isSpec 98 = false ∧ (98 : UInt8) ≠ 10 := by decide +kernel
theorem plain_x : isSpec 120 = false ∧ (120 : UInt8) ≠ 10 := by decide +kernel

/-- A pattern of one branch. -/
theorem branchesL_row {s s' : List UInt8} {g g' : Nat} {ps : List Pi} (h : RowL s' g' s g ps) (hl : ps.length ≤ 200) (h124 : isH s' 124 = false) : BranchesL s s' g g' (piBranches [piRow ps]) :=
  branchesL_all (branchL_row h hl) ⟨rfl, rfl, h124⟩ (by simp)
theorem smP_row1 {text : ByteArray} (l : List Mn) (h : ∀ p ∈ l, SmP text p.1 p.2) : SmP text (piBranches [piRow (l.map (·.1))]) (mRowF (l.map (·.2))) := by
  have := smP_branches [(piRow (l.map (·.1)), mRowF (l.map (·.2)))] (by simp) (fun p hp => by
    rw [List.mem_singleton.1 hp]; exact smP_row l h)
  rw [show mAny ([(piRow (l.map (·.1)), mRowF (l.map (·.2)))].map (·.2)) = mRowF (l.map (·.2)) from by
    funext d; exact mAny_one _ d] at this
  exact this

theorem src_size {src : ByteArray} {l : List UInt8} (h : src.data.toList = l) (hl : l.length ≤ 100) : src.size ≤ 100 := by rw [size_list, h]; exact hl
theorem dgl_len {n : Nat} (hn : n ≤ 20) : (dgl n).length ≤ 2 := by
  rcases dgl_facts ⟨n, by omega⟩ with ⟨h, _⟩ | ⟨_, _, e, _⟩
  · exact Nat.le_trans (Nat.le_of_eq h) (by omega)
  · rw [show dgl n = _ from e]; simp

theorem aL_len (k : Nat) : (aL k).length = k := by simp [aL]

theorem found_both {src text : ByteArray} {a b k : Nat} {w : World} {fr to : Int} (hw : Nm w) (hab : a ≤ b) (hb : b ≤ 20) (hk : k ≤ 40) (hs : src.data.toList = 97 :: 123 :: (dgl a ++ 44 :: (dgl b ++ [125]))) (ht : text.data.toList = aL k ++ [98]) (h1 : k < a → fr < 0) (h2 : a ≤ k → fr = 0 ∧ to = (min k b : Nat)) :
    Calls Tryd.prog 10 #[.string src, .string text, .int .i64 fr, .int .i64 to] w fun e w' => e = .returned (.bool true) ∧ Kp [] w w' := by
  have l1 := dgl_len (n := a) (by omega)
  have l2 := dgl_len (n := b) (by omega)
  refine found_node (p := piBranches [piRow [piRep (piB 97) a (some b)]]) hw (src_size hs (by simp; omega)) (by rw [size_list, ht, List.length_append, aL_len]; simp; omega) (readsL ?_) (smP_row1 [(piRep (piB 97) a (some b), mRep (mOne text (span noBytes 97 98)) a (some b))] ?_) ?_ ?_ ?_ (says_both ht (fun u hu => by rw [List.mem_singleton.1 hu]; decide) hab h1 h2)
  · rw [hs]
    refine branchesL_row ⟨by simp, rfl, rfl, [], 0, pieceL_atom rfl rfl (atomL_byte plain_a.1 plain_a.2) (repL_both hab hb), rfl, rfl, .inl rfl⟩ (by simp) rfl
  · intro p hp
    rw [List.mem_singleton.1 hp]
    exact smP_rep (smP_one _) a (some b) (fun m hm => by cases hm; exact hab)
  · show min (min (min (b * 1 + (b - a)) 301 + 0) 301 + 0 + (1 - 1)) 301 ≤ 300
    omega
  · show 1 + (((b - a) * (1 + 1) + a * 1 + 0) + 0 + (1 - 1)) ≤ 1000
    omega
  · show (1 + (((b - a) * (1 + 1) + a * 1 + 0) + 0 + (1 - 1))) * (max (max (if b = 0 then 0 else 0) 0) 0 + 1) ≤ 9000
    rw [show (max (max (if b = 0 then 0 else 0) 0) 0 + 1) = 1 by split <;> rfl]
    omega

theorem found_from {src text : ByteArray} {a k : Nat} {w : World} {fr : Int} (hw : Nm w) (ha : a ≤ 20) (hk : k ≤ 40) (hs : src.data.toList = 94 :: 97 :: 123 :: (dgl a ++ [44, 125, 36])) (ht : text.data.toList = aL k) (h1 : k < a → fr < 0) (h2 : a ≤ k → fr = 0) :
    Calls Tryd.prog 10 #[.string src, .string text, .int .i64 fr, .int .i64 k] w fun e w' => e = .returned (.bool true) ∧ Kp [] w w' := by
  have l1 := dgl_len (n := a) (by omega)
  refine found_node (p := piBranches [piRow [piEdge 1, piRep (piB 97) a none, piEdge 2]]) hw (src_size hs (by simp; omega)) (by rw [size_list, ht, aL_len]; omega) (readsL ?_) (smP_row1 [(piEdge 1, fun _ => mEdge text 1), (piRep (piB 97) a none, mRep (mOne text (span noBytes 97 98)) a none), (piEdge 2, fun _ => mEdge text 2)] ?_) ?_ ?_ ?_ (says_from ht h1 h2)
  · rw [hs]
    refine branchesL_row ⟨by simp, rfl, rfl, _, 0, pieceL_begin, by simp, rfl, rfl, _, 0, pieceL_atom rfl rfl (atomL_byte plain_a.1 plain_a.2) (repL_from (s := [36]) ha), by simp, rfl, rfl, [], 0, pieceL_end, rfl, rfl, .inl rfl⟩ (by simp) rfl
  · intro p hp
    simp at hp
    rcases hp with rfl | rfl | rfl
    · exact smP_edge 1 (.inl rfl)
    · exact smP_rep (smP_one _) a none (fun m hm => by cases hm)
    · exact smP_edge 2 (.inr rfl)
  · show min (min (1 + (min ((a + 1) * 1 + 1) 301 + (1 + 0))) 301 + 0 + (1 - 1)) 301 ≤ 300
    omega
  · show 1 + ((1 + ((1 + 2 + a * 1) + (1 + 0))) + 0 + (1 - 1)) ≤ 1000
    omega
  · show (1 + ((1 + ((1 + 2 + a * 1) + (1 + 0))) + 0 + (1 - 1))) * (max (max 0 (max (0 + 1) (max 0 0))) 0 + 1) ≤ 9000
    rw [show (max (max 0 (max (0 + 1) (max 0 0))) 0 + 1) = 2 from rfl]
    omega

theorem found_just {src text : ByteArray} {a k : Nat} {w : World} {fr : Int} (hw : Nm w) (ha : a ≤ 20) (hk : k ≤ 40) (hs : src.data.toList = 94 :: 97 :: 123 :: (dgl a ++ [125, 36])) (ht : text.data.toList = aL k) (h1 : k ≠ a → fr < 0) (h2 : k = a → fr = 0) :
    Calls Tryd.prog 10 #[.string src, .string text, .int .i64 fr, .int .i64 k] w fun e w' => e = .returned (.bool true) ∧ Kp [] w w' := by
  have l1 := dgl_len (n := a) (by omega)
  refine found_node (p := piBranches [piRow [piEdge 1, piRep (piB 97) a (some a), piEdge 2]]) hw (src_size hs (by simp; omega)) (by rw [size_list, ht, aL_len]; omega) (readsL ?_) (smP_row1 [(piEdge 1, fun _ => mEdge text 1), (piRep (piB 97) a (some a), mRep (mOne text (span noBytes 97 98)) a (some a)), (piEdge 2, fun _ => mEdge text 2)] ?_) ?_ ?_ ?_ (says_just ht h1 h2)
  · rw [hs]
    refine branchesL_row ⟨by simp, rfl, rfl, _, 0, pieceL_begin, by simp, rfl, rfl, _, 0, pieceL_atom rfl rfl (atomL_byte plain_a.1 plain_a.2) (repL_just (s := [36]) ha), by simp, rfl, rfl, [], 0, pieceL_end, rfl, rfl, .inl rfl⟩ (by simp) rfl
  · intro p hp
    simp at hp
    rcases hp with rfl | rfl | rfl
    · exact smP_edge 1 (.inl rfl)
    · exact smP_rep (smP_one _) a (some a) (fun m hm => by cases hm; exact Nat.le_refl _)
    · exact smP_edge 2 (.inr rfl)
  · show min (min (1 + (min (a * 1 + (a - a)) 301 + (1 + 0))) 301 + 0 + (1 - 1)) 301 ≤ 300
    omega
  · show 1 + ((1 + (((a - a) * (1 + 1) + a * 1) + (1 + 0))) + 0 + (1 - 1)) ≤ 1000
    omega
  · show (1 + ((1 + (((a - a) * (1 + 1) + a * 1) + (1 + 0))) + 0 + (1 - 1))) * (max (max 0 (max (if a = 0 then 0 else 0) (max 0 0))) 0 + 1) ≤ 9000
    rw [show (max (max 0 (max (if a = 0 then 0 else 0) (max 0 0))) 0 + 1) = 1 by split <;> rfl]
    omega

/-- What Match says of x(ab){a,b}. -/
theorem match_pairs {src text : ByteArray} {a b k : Nat} {w : World} (hw : Nm w) (hab : a ≤ b) (hb : b ≤ 20) (hk : k ≤ 40) (hs : src.data.toList = 120 :: 40 :: 97 :: 98 :: 41 :: 123 :: (dgl a ++ 44 :: (dgl b ++ [125]))) (ht : text.data.toList = 120 :: abL k) :
    Calls Tryd.prog 13 #[.string src, .string text] w fun e w' => Kp [] w w' ∧
      ((k < a ∧ e = .returned (.tuple #[.slice none 0 0, .int .i64 0, .int .i64 0])) ∨
       (a ≤ k ∧ ∃ q c, e = .returned (.tuple #[.slice (some ⟨q, 0, none⟩) 4 c, .int .i64 0, .int .i64 0]) ∧ w'.cell? ⟨q, 0, none⟩ = some (.int .i64 0) ∧ w'.cell? ⟨q, 1, none⟩ = some (.int .i64 ((1 + 2 * min k b : Nat) : Int)) ∧
        (min k b = 0 → w'.cell? ⟨q, 2, none⟩ = some (.int .i64 (-1)) ∧ w'.cell? ⟨q, 3, none⟩ = some (.int .i64 (-1))) ∧
        (0 < min k b → w'.cell? ⟨q, 2, none⟩ = some (.int .i64 ((1 + 2 * min k b - 2 : Nat) : Int)) ∧ w'.cell? ⟨q, 3, none⟩ = some (.int .i64 ((1 + 2 * min k b : Nat) : Int))))) := by
  have l1 := dgl_len (n := a) (by omega)
  have l2 := dgl_len (n := b) (by omega)
  have sab : SmP text (piGroup 1 (piBranches [piRow [piB 97, piB 98]])) (abM text) := by
    refine smP_group (smP_branches [(piRow [piB 97, piB 98], mRowF [mOne text (span noBytes 97 98), mOne text (span noBytes 98 99)])] (by simp) fun p hp => ?_) (by omega) (by omega)
    rw [List.mem_singleton.1 hp]
    refine smP_row [(piB 97, mOne text (span noBytes 97 98)), (piB 98, mOne text (span noBytes 98 99))] fun p hp => ?_
    simp at hp
    rcases hp with rfl | rfl
    · exact smP_one _
    · exact smP_one _
  refine (match_node (G := 1) (p := piBranches [piRow [piB 120, piRep (piGroup 1 (piBranches [piRow [piB 97, piB 98]])) a (some b)]]) hw (src_size hs (by simp; omega)) (by rw [size_list, ht, List.length_cons, abL_len]; omega) (by omega) (readsL ?_) (smP_row1 [(piB 120, mOne text (span noBytes 120 121)), (piRep (piGroup 1 (piBranches [piRow [piB 97, piB 98]])) a (some b), mRep (abM text) a (some b))] ?_) ?_ ?_ ?_).mono ?_
  · rw [hs]
    refine branchesL_row ⟨by simp, rfl, rfl, _, 0, pieceL_atom rfl rfl (atomL_byte plain_x.1 plain_x.2) (repL_no rfl), by simp, rfl, rfl, [], 1, pieceL_atom rfl rfl (atomL_group (by omega) ?_) (repL_both hab hb), rfl, rfl, .inl rfl⟩ (by simp) rfl
    refine branchesL_row ⟨by simp, rfl, rfl, _, 1, pieceL_atom rfl rfl (atomL_byte plain_a.1 plain_a.2) (repL_no rfl), by simp, rfl, rfl, _, 1, pieceL_atom rfl rfl (atomL_byte plain_b.1 plain_b.2) (repL_no rfl), rfl, rfl, .inr (.inr rfl)⟩ (by simp) rfl
  · intro p hp
    simp at hp
    rcases hp with rfl | rfl
    · exact smP_one _
    · exact smP_rep sab a (some b) (fun m hm => by cases hm; exact hab)
  · show min (min (1 + (min (b * 4 + (b - a)) 301 + 0)) 301 + 0 + (1 - 1)) 301 ≤ 300
    omega
  · show 1 + ((1 + (((b - a) * (4 + 1) + a * 4) + 0)) + 0 + (1 - 1)) ≤ 1000
    omega
  · show (1 + ((1 + (((b - a) * (4 + 1) + a * 4) + 0)) + 0 + (1 - 1))) * (max (max 0 (max (if b = 0 then 0 else 0) 0)) 0 + 1) ≤ 9000
    rw [show (max (max 0 (max (if b = 0 then 0 else 0) 0)) 0 + 1) = 1 by split <;> rfl]
    omega
  · rintro e w' ⟨kp, s', hB, hres⟩
    obtain ⟨q1, q2⟩ := best_pairs ht hab hB
    refine ⟨kp, ?_⟩
    by_cases hka : k < a
    · have hf := q1 hka
      rcases hres with ⟨_, he⟩ | ⟨hf', _⟩
      · exact .inl ⟨hka, he⟩
      · rw [hf] at hf'; cases hf'
    · obtain ⟨hf, b0, b1, b2, b3⟩ := q2 (by omega)
      rcases hres with ⟨hf', _⟩ | ⟨_, q, c, he, hc⟩
      · rw [hf] at hf'; cases hf'
      · have c0 := hc 0 (by omega)
        have c1 := hc 1 (by omega)
        have c2 := hc 2 (by omega)
        have c3 := hc 3 (by omega)
        rw [b0] at c0
        rw [b1] at c1
        refine .inr ⟨by omega, q, c, he, c0, c1, fun h0 => ?_, fun h0 => ?_⟩
        · obtain ⟨r1, r2⟩ := b2 h0
          rw [r1] at c2
          rw [r2] at c3
          exact ⟨c2, c3⟩
        · obtain ⟨r1, r2⟩ := b3 h0
          rw [r1] at c2
          rw [r2] at c3
          exact ⟨c2, c3⟩
end Go.Proofs.YtanpiomfnbiilaaDoor
