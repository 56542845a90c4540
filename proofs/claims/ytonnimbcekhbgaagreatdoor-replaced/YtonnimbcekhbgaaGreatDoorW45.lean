/- What the claim needs of: TA. -/
import Derived.Test.YtonnimbcekhbgaaGreatDoorW44
import Derived.Laws.IdiomStrings
import Derived.Deep.RegionWith

/- TA. -/
namespace Go.Proofs.YtonnimbcekhbgaaGreatDoor
open Go.RowKit

/-- The node p does as M says. -/
def SmP (text : ByteArray) (p : Pi) (M : Nat → Rl) : Prop := Sm text p.len p.dd p.em M

section
variable {text : ByteArray} {A B C : Rl} {i tk j tk' : Nat} {x x' : Nat → Int}

theorem rl_ext (h : ∀ i tk x j tk' x', A i tk x j tk' x' ↔ B i tk x j tk' x') : A = B := by
  funext i tk x j tk' x'
  exact propext (h i tk x j tk' x')
theorem mSeq_assoc : mSeq (mSeq A B) C = mSeq A (mSeq B C) := rl_ext fun _ _ _ _ _ _ =>
  ⟨fun ⟨_, _, _, ⟨_, _, _, a, b⟩, c⟩ => ⟨_, _, _, a, _, _, _, b, c⟩, fun ⟨_, _, _, a, _, _, _, b, c⟩ => ⟨_, _, _, ⟨_, _, _, a, b⟩, c⟩⟩
theorem mSeq_id : mSeq A mId = A := rl_ext fun _ _ _ _ _ _ =>
  ⟨fun ⟨_, _, _, a, h1, h2, h3⟩ => by rw [h1, h2, h3]; exact a, fun a => ⟨_, _, _, a, rfl, rfl, rfl⟩⟩
theorem id_mSeq : mSeq mId A = A := rl_ext fun _ _ _ _ _ _ =>
  ⟨fun ⟨_, _, _, ⟨h1, h2, h3⟩, a⟩ => by rw [h1, h2, h3] at a; exact a, fun a => ⟨_, _, _, ⟨rfl, rfl, rfl⟩, a⟩⟩

/-- A row, piece after piece. -/
def mRowF : List (Nat → Rl) → Nat → Rl
  | [], _ => mId
  | m :: ms, d => mSeq (m d) (mRowF ms d)
theorem mRow_snoc (m : Nat → Rl) (d : Nat) : ∀ l : List (Nat → Rl), mRow (l ++ [m]) d = mSeq (m d) (mRow l d)
  | [] => by show mSeq mId (m d) = mSeq (m d) mId; rw [mSeq_id, id_mSeq]
  | n :: l => by
    show mSeq (mRow (l ++ [m]) d) (n d) = mSeq (m d) (mSeq (mRow l d) (n d))
    rw [mRow_snoc m d l, mSeq_assoc]
theorem mRow_rev (d : Nat) : ∀ l : List (Nat → Rl), mRow l.reverse d = mRowF l d
  | [] => rfl
  | m :: l => by rw [List.reverse_cons, mRow_snoc, mRow_rev d l]; rfl

theorem lenL_rev (l : List It) : lenL l.reverse = lenL l := by unfold lenL; rw [List.map_reverse, List.sum_reverse]
theorem ddL_rev : ∀ l : List It, ddL l.reverse = ddL l
  | [] => rfl
  | p :: l => by
    rw [List.reverse_cons, ddL_append, ddL_rev l]
    show max (ddL l) (max p.dd 0) = max p.dd (ddL l)
    omega

theorem smP_one (m : Nat → Bool) : SmP text (piOne m) (mOne text m) := sm_one m
theorem smP_group {g : Nat} {p : Pi} {M : Nat → Rl} (h : SmP text p M) (hg0 : 1 ≤ g) (hg : g ≤ 9) : SmP text (piGroup g p) (fun d => mGroup g (M d)) := sm_group (len := p.len) h hg0 hg
/-- A node, and what it does. -/
abbrev Mn := Pi × (Nat → Rl)
theorem smP_row (l : List Mn) (h : ∀ p ∈ l, SmP text p.1 p.2) : SmP text (piRow (l.map (·.1))) (mRowF (l.map (·.2))) := by
  have q := sm_row (text := text) ((l.map fun p => (p.1.it, p.2)).reverse) (fun p hp => by
    obtain ⟨r, hr, rfl⟩ := List.mem_map.1 (List.mem_reverse.1 hp)
    exact h r hr)
  rw [List.map_reverse, List.map_reverse, lenL_rev, ddL_rev, List.map_map, List.map_map] at q
  have e2 : mRow (l.map ((·.2) ∘ fun p : Mn => (p.1.it, p.2))).reverse = mRowF (l.map (·.2)) := by
    funext d
    rw [mRow_rev]
    rfl
  rw [e2] at q
  unfold SmP piRow rowIt It.pi
  rw [List.map_map]
  exact q

/-- One of some. -/
def mAny (l : List (Nat → Rl)) (d : Nat) : Rl := fun i tk x j tk' x' => ∃ m ∈ l, m d i tk x j tk' x'
theorem mBr_any (d : Nat) : ∀ (l : List (Nat → Rl)) (B : Rl), mBr l B d i tk x j tk' x' ↔ mAny l d i tk x j tk' x' ∨ B i tk x j tk' x'
  | [], B => ⟨fun h => .inr h, fun h => by
    rcases h with ⟨_, hm, _⟩ | h
    · cases hm
    · exact h⟩
  | m :: l, B => by
    show mBr l (mOr (m d) B) d i tk x j tk' x' ↔ _
    rw [mBr_any d l]
    constructor
    · rintro (⟨m', hm, h⟩ | h | h)
      · exact .inl ⟨m', by simp [hm], h⟩
      · exact .inl ⟨m, by simp, h⟩
      · exact .inr h
    · rintro (⟨m', hm, h⟩ | h)
      · rcases List.mem_cons.1 hm with rfl | hm
        · exact .inr (.inl h)
        · exact .inl ⟨m', hm, h⟩
      · exact .inr (.inr h)
theorem mBranches_any {l : List (Nat → Rl)} (hl : l ≠ []) (d : Nat) : mBranches l d = mAny l d := by
  cases l with
  | nil => exact absurd rfl hl
  | cons m l =>
    refine rl_ext fun i tk x j tk' x' => ?_
    show mBr l (m d) d i tk x j tk' x' ↔ _
    rw [mBr_any]
    constructor
    · rintro (⟨m', hm, h⟩ | h)
      · exact ⟨m', by simp [hm], h⟩
      · exact ⟨m, by simp, h⟩
    · rintro ⟨m', hm, h⟩
      rcases List.mem_cons.1 hm with rfl | hm
      · exact .inr h
      · exact .inl ⟨m', hm, h⟩
theorem mAny_rev (l : List (Nat → Rl)) (d : Nat) : mAny l.reverse d = mAny l d := rl_ext fun _ _ _ _ _ _ =>
  ⟨fun ⟨m, hm, h⟩ => ⟨m, List.mem_reverse.1 hm, h⟩, fun ⟨m, hm, h⟩ => ⟨m, List.mem_reverse.2 hm, h⟩⟩

theorem smP_branches (l : List Mn) (hl : l ≠ []) (h : ∀ p ∈ l, SmP text p.1 p.2) : SmP text (piBranches (l.map (·.1))) (mAny (l.map (·.2))) := by
  have key : ∀ L : List (It × (Nat → Rl)), L ≠ [] → (∀ p ∈ L, Sm text p.1.len p.1.dd p.1.em p.2) → Sm text (lenL (L.map (·.1)) + (L.length - 1)) (ddL (L.map (·.1))) (emBranches (L.map (·.1))) (mBranches (L.map (·.2))) := fun L hL hh => by
    cases L with
    | nil => exact absurd rfl hL
    | cons p L => exact sm_branches p L hh
  have q := key ((l.map fun p => (p.1.it, p.2)).reverse) (by simpa using hl) (fun p hp => by
    obtain ⟨r, hr, rfl⟩ := List.mem_map.1 (List.mem_reverse.1 hp)
    exact h r hr)
  rw [List.map_reverse, List.map_reverse, lenL_rev, ddL_rev, List.map_map, List.map_map, List.length_reverse, List.length_map] at q
  have e2 : mBranches (l.map ((·.2) ∘ fun p : Mn => (p.1.it, p.2))).reverse = mAny (l.map (·.2)) := by
    funext d
    rw [mBranches_any (by simpa using hl), mAny_rev]
    rfl
  rw [e2] at q
  unfold SmP piBranches branchesIt It.pi
  rw [List.map_map, List.length_map]
  exact q

end
end Go.Proofs.YtonnimbcekhbgaaGreatDoor

/- Reading, by what is left of the pattern's bytes. -/
namespace Go.Proofs.YtonnimbcekhbgaaGreatDoor
open Go.RowKit

/-- At place k of l the bytes s are left. -/
def Sf (l : List UInt8) (k : Nat) (s : List UInt8) : Prop := l.drop k = s ∧ k + s.length = l.length
def isH (s : List UInt8) (x : Nat) : Bool := match s with
  | c :: _ => c.toNat == x
  | [] => false

section
variable {l s s' : List UInt8} {k k' g g' : Nat} {c : UInt8}
theorem Sf.tail (h : Sf l k (c :: s)) : Sf l (k + 1) s := ⟨by rw [← List.drop_drop, h.1]; rfl, by have := h.2; simp at this; omega⟩
theorem Sf.saw (h : Sf l k s) (x : Nat) : saw ⟨l.toArray⟩ k (x : Int) = isH s x := by
  have := getElem?_of_drop (j := 0) h.1
  rw [Nat.add_zero] at this
  rw [saw_list, this]
  cases s with
  | nil => rfl
  | cons c s =>
    show ((c.toNat : Int) == (x : Int)) = (c.toNat == x)
    rw [Bool.eq_iff_iff, beq_iff_eq, beq_iff_eq]
    omega
theorem Sf.size (_ : Sf l k s) : (ByteArray.mk l.toArray).size = l.length := by show l.toArray.size = l.length; simp
theorem Sf.lt (h : Sf l k (c :: s)) : k < (ByteArray.mk l.toArray).size := by rw [h.size]; have := h.2; simp at this; omega
theorem Sf.at (h : Sf l k (c :: s)) : (ByteArray.mk l.toArray)[k]'h.lt = c := (at_is (j := 0) h.1 rfl).2
theorem Sf.le (h : Sf l k s) (h' : Sf l k' s') (hl : s'.length ≤ s.length) : k ≤ k' := by have := h.2; have := h'.2; omega
theorem Sf.less (h : Sf l k s) (h' : Sf l k' s') (hl : s'.length < s.length) : k < k' := by have := h.2; have := h'.2; omega
theorem Sf.all (l : List UInt8) : Sf l 0 l := ⟨rfl, by simp⟩
theorem Sf.end (h : Sf l k []) : k = (ByteArray.mk l.toArray).size := by rw [h.size]; have := h.2; simpa using this
/-- From the bytes s on to the bytes s'. -/
def AtomL (s s' : List UInt8) (g g' : Nat) (p : Pi) : Prop := s'.length < s.length ∧ ∀ l k, Sf l k s → ∃ k', Sf l k' s' ∧ AtomN ⟨l.toArray⟩ k k' g g' p
def RepL (s s' : List UInt8) (f : Pi → Pi) : Prop := s'.length ≤ s.length ∧ ∀ l k g, Sf l k s → ∃ k', Sf l k' s' ∧ RepN ⟨l.toArray⟩ k k' g f
def PieceL (s s' : List UInt8) (g g' : Nat) (p : Pi) : Prop := s'.length < s.length ∧ ∀ l k, Sf l k s → ∃ k', Sf l k' s' ∧ PieceN ⟨l.toArray⟩ k k' g g' p
def BranchL (s s' : List UInt8) (g g' : Nat) (p : Pi) : Prop := s'.length ≤ s.length ∧ ∀ l k, Sf l k s → ∃ k', Sf l k' s' ∧ BranchN ⟨l.toArray⟩ k k' g g' p
def BranchesL (s s' : List UInt8) (g g' : Nat) (p : Pi) : Prop := s'.length ≤ s.length ∧ ∀ l k, Sf l k s → ∃ k', Sf l k' s' ∧ BranchesN ⟨l.toArray⟩ k k' g g' p

abbrev piB (c : UInt8) : Pi := piOne (span noBytes c.toNat (c.toNat + 1))

theorem atomL_byte (h1 : isSpec c = false) (h2 : c ≠ 10) : AtomL (c :: s) s g g (piB c) := by
  refine ⟨by simp, fun l k h => ⟨k + 1, h.tail, ?_⟩⟩
  obtain ⟨hp, hi⟩ := plain_of h1 h2
  have no : ∀ x : Nat, c.toNat ≠ x → saw ⟨l.toArray⟩ k (x : Int) = false := fun x hx => by
    rw [h.saw]; show (c.toNat == x) = false; simpa using hx
  refine atomN_byte c.toNat_lt (no 40 (by omega)) (no 46 (by omega)) (no 91 (by omega)) fun b => ?_
  have := byte_plain (b := b) (g := g) (barred := special) (behind := escaped) h.lt (no 92 (by omega)) (no 10 (by omega)) (by rw [h.at]; exact hi)
  rw [h.at] at this
  exact this

theorem repL_no (h : goodHead s.head? = true) : RepL s s id := by
  refine ⟨Nat.le_refl _, fun l k g hs => ⟨k, hs, ?_⟩⟩
  have no : ∀ x : Nat, x = 42 ∨ x = 43 ∨ x = 63 ∨ x = 123 → saw ⟨l.toArray⟩ k (x : Int) = false := fun x hx => by
    rw [hs.saw]
    cases s with
    | nil => rfl
    | cons c s =>
      have h : decide (c.toNat ≠ 42 ∧ c.toNat ≠ 43 ∧ c.toNat ≠ 63 ∧ c.toNat ≠ 123) = true := h
      have h := of_decide_eq_true h
      show (c.toNat == x) = false
      rw [beq_eq_false_iff_ne]
      omega
  exact repN_no (no 42 (by omega)) (no 43 (by omega)) (no 63 (by omega)) (no 123 (by omega))
theorem pieceL_atom {f : Pi → Pi} {s1 : List UInt8} {p : Pi} (h94 : isH s 94 = false) (h36 : isH s 36 = false) (ha : AtomL s s1 g g' p) (hf : RepL s1 s' f) : PieceL s s' g g' (f p) := by
  refine ⟨Nat.lt_of_le_of_lt hf.1 ha.1, fun l k h => ?_⟩
  obtain ⟨k1, h1, a1⟩ := ha.2 l k h
  obtain ⟨k2, h2, a2⟩ := hf.2 l k1 g' h1
  exact ⟨k2, h2, pieceN_atom ((h.saw 94).trans h94) ((h.saw 36).trans h36) a1 a2⟩
/-- A row of pieces. -/
def RowL (s' : List UInt8) (g' : Nat) : List UInt8 → Nat → List Pi → Prop
  | s, g, [] => s' = s ∧ g' = g ∧ (s = [] ∨ isH s 124 = true ∨ isH s 41 = true)
  | s, g, p :: ps => s ≠ [] ∧ isH s 124 = false ∧ isH s 41 = false ∧ ∃ s1 g1, PieceL s s1 g g1 p ∧ RowL s' g' s1 g1 ps
theorem rowL_row : ∀ (ps : List Pi) (s : List UInt8) (g k : Nat), RowL s' g' s g ps → Sf l k s → ∃ k', Sf l k' s' ∧ s'.length ≤ s.length ∧ RowN ⟨l.toArray⟩ k' g' k g ps
  | [], s, g, k, ⟨h1, h2, h3⟩, hs => by
    subst h1
    refine ⟨k, hs, Nat.le_refl _, rfl, h2, ?_⟩
    rcases h3 with h | h | h
    · subst h; exact .inl hs.end
    · have : s' ≠ [] := by rintro rfl; cases h
      obtain ⟨c, t, rfl⟩ := List.exists_cons_of_ne_nil this
      exact .inr (.inl ⟨hs.lt, (hs.saw 124).trans h⟩)
    · have : s' ≠ [] := by rintro rfl; cases h
      obtain ⟨c, t, rfl⟩ := List.exists_cons_of_ne_nil this
      have h41 : c.toNat = 41 := by simpa [isH] using h
      exact .inr (.inr ⟨hs.lt, (hs.saw 124).trans (by simp [isH, h41]), (hs.saw 41).trans h⟩)
  | p :: ps, s, g, k, ⟨h1, h2, h3, s1, g1, hp, hr⟩, hs => by
    obtain ⟨c, t, rfl⟩ := List.exists_cons_of_ne_nil h1
    obtain ⟨k1, hs1, p1⟩ := hp.2 l k hs
    obtain ⟨k', hs', hle, r⟩ := rowL_row ps s1 g1 k1 hr hs1
    exact ⟨k', hs', Nat.le_trans hle (Nat.le_of_lt hp.1), hs.lt, (hs.saw 124).trans h2, (hs.saw 41).trans h3, k1, g1, hs.less hs1 hp.1, p1, r⟩
theorem rowL_len : ∀ (ps : List Pi) (s : List UInt8) (g : Nat), RowL s' g' s g ps → s'.length ≤ s.length
  | [], _, _, ⟨h1, _⟩ => by rw [h1]; exact Nat.le_refl _
  | _ :: ps, _, _, ⟨_, _, _, s1, g1, hp, hr⟩ => Nat.le_trans (rowL_len ps s1 g1 hr) (Nat.le_of_lt hp.1)
theorem branchL_row {ps : List Pi} (h : RowL s' g' s g ps) (hl : ps.length ≤ 200) : BranchL s s' g g' (piRow ps) :=
  ⟨rowL_len ps s g h, fun _ k hs => by
    obtain ⟨k', hs', _, r⟩ := rowL_row ps s g k h hs
    exact ⟨k', hs', branchN_row r hl⟩⟩

/-- Branches behind the first one. -/
def BrsL (s' : List UInt8) (g' : Nat) : List UInt8 → Nat → List Pi → Prop
  | s, g, [] => s' = s ∧ g' = g ∧ isH s 124 = false
  | s, g, p :: ps => ∃ s0 s1 g1, s = 124 :: s0 ∧ BranchL s0 s1 g g1 p ∧ BrsL s' g' s1 g1 ps
theorem brsL_brs : ∀ (ps : List Pi) (s : List UInt8) (g k : Nat), BrsL s' g' s g ps → Sf l k s → ∃ k', Sf l k' s' ∧ s'.length ≤ s.length ∧ BrsN ⟨l.toArray⟩ k' g' k g ps
  | [], s, g, k, ⟨h1, h2, h3⟩, hs => by
    subst h1
    exact ⟨k, hs, Nat.le_refl _, rfl, h2, (hs.saw 124).trans h3⟩
  | p :: ps, s, g, k, ⟨s0, s1, g1, e, hp, hr⟩, hs => by
    subst e
    obtain ⟨k1, hs1, p1⟩ := hp.2 l (k + 1) hs.tail
    obtain ⟨k', hs', hle, r⟩ := brsL_brs ps s1 g1 k1 hr hs1
    refine ⟨k', hs', Nat.le_trans hle (Nat.le_trans hp.1 (by simp)), (hs.saw 124).trans rfl, k1, g1, ?_, p1, r⟩
    have := hs.tail.le hs1 hp.1
    omega
theorem brsL_len : ∀ (ps : List Pi) (s : List UInt8) (g : Nat), BrsL s' g' s g ps → s'.length ≤ s.length
  | [], _, _, ⟨h1, _⟩ => by rw [h1]; exact Nat.le_refl _
  | _ :: ps, _, _, ⟨_, s1, g1, e, hp, hr⟩ => by
    have := brsL_len ps s1 g1 hr
    have := hp.1
    rw [e, List.length_cons]
    omega
theorem branchesL_all {s1 : List UInt8} {g1 : Nat} {p : Pi} {ps : List Pi} (h0 : BranchL s s1 g g1 p) (h : BrsL s' g' s1 g1 ps) (hl : ps.length ≤ 100) : BranchesL s s' g g' (piBranches (p :: ps)) := by
  refine ⟨Nat.le_trans (brsL_len ps s1 g1 h) h0.1, fun l k hs => ?_⟩
  obtain ⟨k1, hs1, b1⟩ := h0.2 l k hs
  obtain ⟨k', hs', _, r⟩ := brsL_brs ps s1 g1 k1 h hs1
  exact ⟨k', hs', branchesN_all b1 r hl⟩
theorem atomL_group {p : Pi} (hg : g < 9) (hb : BranchesL s (41 :: s') (g + 1) g' p) : AtomL (40 :: s) s' g g' (piGroup (g + 1) p) := by
  refine ⟨by have := hb.1; simp at this ⊢; omega, fun l k hs => ?_⟩
  obtain ⟨k1, hs1, b1⟩ := hb.2 l (k + 1) hs.tail
  exact ⟨k1 + 1, hs1.tail, atomN_group hg ((hs.saw 40).trans rfl) b1 ((hs1.saw 41).trans rfl)⟩

end
end Go.Proofs.YtonnimbcekhbgaaGreatDoor
