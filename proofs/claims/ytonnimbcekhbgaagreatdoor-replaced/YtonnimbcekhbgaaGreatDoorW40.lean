/- What the claim needs of: KT KU. -/
import Derived.Test.YtonnimbcekhbgaaGreatDoorW36
import Derived.Test.YtonnimbcekhbgaaGreatDoorW39
import Derived.Test.YtonnimbcekhbgaaGreatDoorW28
import Derived.Laws.IdiomStrings
import Derived.Deep.RegionWith
import Derived.Test.YtonnimbcekhbgaaGreatDoorW32
import Derived.Test.YtonnimbcekhbgaaGreatDoorW33

/- KT. -/
namespace Go.Proofs.YtonnimbcekhbgaaGreatDoor
open Go.RowKit

section
variable {q : Nat → Bool} {N L : Nat}
theorem occs_at : ∀ (k fr : Nat), ∀ i a, (occs q N L k fr)[i]? = some a → q a = true ∧ fr ≤ a ∧ ∀ a', (occs q N L k fr)[i + 1]? = some a' → a + L ≤ a'
  | 0, _, _, _, h => by cases h
  | k + 1, fr, i, a, h => by
    unfold occs at h ⊢
    cases hn : nextO q N fr with
    | none => rw [hn] at h; cases h
    | some c =>
      rw [hn] at h
      obtain ⟨h1, h2, h3, h4⟩ := nextO_some hn
      match i, h with
      | 0, h =>
        injection h with h
        subst h
        refine ⟨h3, h1, fun a' ha' => ?_⟩
        exact (occs_at k (c + L) 0 a' ha').2.1
      | i + 1, h =>
        obtain ⟨g1, g2, g3⟩ := occs_at k (c + L) i a h
        exact ⟨g1, by omega, g3⟩
theorem occs_len : ∀ (k fr : Nat), (occs q N L k fr).length ≤ k
  | 0, _ => Nat.le_refl _
  | k + 1, fr => by
    unfold occs
    cases nextO q N fr with
    | none => simp
    | some c => have := occs_len k (c + L); simp; omega
end

section
variable {sp plain : List UInt8} {holes : List (Nat × Nat)} {L num : Nat} {nt : Nat → Nat → Nat} {ps : List Nat}
theorem stR_small (hasc : ∀ i a a' : Nat, ps[i]? = some a → ps[i + 1]? = some a' → a + L ≤ a') (hp : ∀ a ∈ ps, (putN plain sp (nt a) 0 holes).length ≤ 3 * L) : ∀ i, (stR sp plain holes L num nt ps i).acc.length ≤ 3 * (stR sp plain holes L num nt ps i).done
  | 0 => Nat.le_refl _
  | i + 1 => by
    rcases h1 : ps[i]? with _ | a
    · have h2 := List.getElem?_eq_none_iff.1 h1
      have e := stR_small hasc hp i
      unfold stR at e ⊢
      rw [List.take_of_length_le (show ps.length ≤ i + 1 by omega), ← List.take_of_length_le h2]
      exact e
    · have e := stR_small hasc hp i
      have hd := stR_done (sp := sp) (plain := plain) (holes := holes) (num := num) (nt := nt) hasc i a h1
      rw [stR_succ h1]
      unfold stepR
      split
      · exact e
      · have := hp a (List.mem_of_getElem? h1)
        simp only [List.length_append, List.length_drop, List.length_take]
        omega
theorem stR_no : ∀ i, (stR sp plain holes L num nt ps i).ok = false → stR sp plain holes L num nt ps i = ⟨[], 0, false⟩
  | 0, _ => rfl
  | i + 1, h => by
    rcases h1 : ps[i]? with _ | a
    · have h2 := List.getElem?_eq_none_iff.1 h1
      have e : stR sp plain holes L num nt ps (i + 1) = stR sp plain holes L num nt ps i := by
        unfold stR
        rw [List.take_of_length_le (show ps.length ≤ i + 1 by omega), List.take_of_length_le h2]
      rw [e] at h ⊢
      exact stR_no i h
    · rw [stR_succ h1] at h ⊢
      unfold stepR at h ⊢
      split at h
      · rename_i hlt
        rw [if_pos hlt]
        exact stR_no i h
      · cases h

/-- What the law tells, place by place: up to where, and what. -/
def lawR (sp : List UInt8) (L : Nat) (f : Nat → List UInt8) : Nat → List Nat → Nat × List UInt8 → Nat × List UInt8
  | _, [], r => r
  | i, a :: rest, r => lawR sp L f (i + 1) rest (a + L, r.2 ++ (sp.take a).drop r.1 ++ f i)
def lawT (sp : List UInt8) (L : Nat) (f : Nat → List UInt8) (ps : List Nat) : List UInt8 := (lawR sp L f 0 ps (0, [])).2 ++ sp.drop (lawR sp L f 0 ps (0, [])).1
theorem lawR_snoc {f : Nat → List UInt8} (a : Nat) : ∀ (xs : List Nat) (k : Nat) (r : Nat × List UInt8), lawR sp L f k (xs ++ [a]) r = (a + L, (lawR sp L f k xs r).2 ++ (sp.take a).drop (lawR sp L f k xs r).1 ++ f (k + xs.length))
  | [], k, r => rfl
  | x :: xs, k, r => by
    show lawR sp L f (k + 1) (xs ++ [a]) _ = _
    rw [lawR_snoc a xs (k + 1), List.length_cons, show k + 1 + xs.length = k + (xs.length + 1) by omega]
    rfl
theorem cutR (sp : List UInt8) {d a : Nat} (h : d ≤ a) : sp.drop d = (sp.take a).drop d ++ sp.drop a := by
  conv => lhs; rw [← List.take_append_drop a sp]
  rw [List.drop_append]
  by_cases hl : a ≤ sp.length
  · rw [List.length_take, Nat.min_eq_left hl, show d - a = 0 by omega, List.drop_zero]
  · rw [List.drop_eq_nil_of_le (show sp.length ≤ a by omega)]; simp

/-- What the law tells is what is made. -/
theorem law_is {f : Nat → List UInt8} {n : Nat} (hasc : ∀ i a a' : Nat, ps[i]? = some a → ps[i + 1]? = some a' → a + L ≤ a') (hle : ∀ a ∈ ps, a + L ≤ sp.length)
    (h1 : ∀ i a, ps[i]? = some a → i < n → ¬ i + 1 < num → f i = putN plain sp (nt a) 0 holes) (h2 : ∀ i a, ps[i]? = some a → (i + 1 < num ∨ n ≤ i) → f i = (sp.take (a + L)).drop a) :
    lawT sp L f ps = (stR sp plain holes L num nt ps n).acc ++ sp.drop (stR sp plain holes L num nt ps n).done := by
  have key : ∀ i, i ≤ ps.length → ((lawR sp L f 0 (ps.take i) (0, [])).2 ++ sp.drop (lawR sp L f 0 (ps.take i) (0, [])).1 = (stR sp plain holes L num nt ps (min i n)).acc ++ sp.drop (stR sp plain holes L num nt ps (min i n)).done) ∧ (∀ a, ps[i]? = some a → (lawR sp L f 0 (ps.take i) (0, [])).1 ≤ a) := by
    intro i
    induction i with
    | zero => intro _; exact ⟨by rw [Nat.zero_min]; rfl, fun a _ => Nat.zero_le _⟩
    | succ i ih =>
      intro hi
      obtain ⟨a, ha⟩ : ∃ a, ps[i]? = some a := ⟨_, List.getElem?_eq_getElem (show i < ps.length by omega)⟩
      obtain ⟨e1, e2⟩ := ih (by omega)
      have e2 := e2 a ha
      have hal := hle a (List.mem_of_getElem? ha)
      have hr : lawR sp L f 0 (ps.take (i + 1)) (0, []) = (a + L, (lawR sp L f 0 (ps.take i) (0, [])).2 ++ (sp.take a).drop (lawR sp L f 0 (ps.take i) (0, [])).1 ++ f i) := by
        rw [List.take_add_one, ha]
        show lawR sp L f 0 (ps.take i ++ [a]) _ = _
        rw [lawR_snoc, Nat.zero_add, List.length_take, Nat.min_eq_left (by omega)]
      refine ⟨?_, fun a' ha' => by rw [hr]; exact hasc i a a' ha ha'⟩
      rw [hr]
      generalize lawR sp L f 0 (ps.take i) (0, []) = r at *
      obtain ⟨d, T⟩ := r
      simp only at e1 e2 ⊢
      rw [cutR sp e2] at e1
      by_cases hn : i < n
      · rw [Nat.min_eq_left (by omega)] at e1
        rw [Nat.min_eq_left (by omega)]
        have hd := stR_done (sp := sp) (plain := plain) (holes := holes) (num := num) (nt := nt) hasc i a ha
        rw [stR_succ ha]
        unfold stepR
        by_cases hlt : i + 1 < num
        · rw [if_pos hlt, ← e1, h2 i a ha (.inl hlt), List.append_assoc, List.append_assoc, ← cutR sp (show a ≤ a + L by omega)]
        · rw [if_neg hlt, h1 i a ha hn hlt]
          rw [cutR sp hd, ← List.append_assoc, ← List.append_assoc] at e1
          have e3 := List.append_cancel_right e1
          simp only
          rw [e3]
      · rw [Nat.min_eq_right (by omega)] at e1
        rw [Nat.min_eq_right (by omega), ← e1, h2 i a ha (.inr (by omega)), List.append_assoc, List.append_assoc, ← cutR sp (show a ≤ a + L by omega)]
  have k := (key ps.length (Nat.le_refl _)).1
  rw [List.take_length] at k
  unfold lawT
  rw [k]
  by_cases hn : n ≤ ps.length
  · rw [Nat.min_eq_right hn]
  · rw [Nat.min_eq_left (by omega)]
    have e : stR sp plain holes L num nt ps ps.length = stR sp plain holes L num nt ps n := by
      unfold stR
      rw [List.take_length, List.take_of_length_le (by omega)]
    rw [e]
theorem law_len (hasc : ∀ i a a' : Nat, ps[i]? = some a → ps[i + 1]? = some a' → a + L ≤ a') (hle : ∀ a ∈ ps, a + L ≤ sp.length) (hp : ∀ a ∈ ps, (putN plain sp (nt a) 0 holes).length ≤ 3 * L) (n : Nat) :
    ((stR sp plain holes L num nt ps n).acc ++ sp.drop (stR sp plain holes L num nt ps n).done).length ≤ 3 * sp.length := by
  have h1 := stR_small (sp := sp) (plain := plain) (holes := holes) (num := num) (nt := nt) hasc hp n
  have h2 := stR_le (plain := plain) (holes := holes) (num := num) (nt := nt) hle n
  rw [List.length_append, List.length_drop]
  omega
end

section
variable {w0 w w' : World} {mb sb db lo hi : Nat} {s s' : Mst} {σ : Sst} {ls : List (List UInt8)}

theorem enters_s : Enters 42 := by intro p q w; simp [go_sem]
theorem deed_s : Instr.findNow (.int .u8) (.int .u8 ((115 : Nat) : Int)) (tabE 0 deedsL) 0 = some (some (6, .func (.func 42) #[] #[])) := by kernel_rfl

/-- An s: its pattern, what is put there, its flags. -/
structure IsS (σ : Sst) (c : List Value) (Q : Nat → World → Prop) (L : List UInt8) (H : List (Nat × Nat)) (g : Bool) (m : Nat) : Prop where
  pl : Plain c 115
  c6 : c[6]? = some (.string ⟨#[]⟩)
  c14 : c[14]? = some (.string (ba L))
  c16 : c[16]? = some (.bool g)
  c17 : c[17]? = some (.int .i64 m)
  c18 : c[18]? = some (.bool false)
  pat : ∃ pb gb o1 o2, c[11]? = some (.pointer (some ⟨pb, 0, none⟩)) ∧ (pb, o1) ∈ σ.fs ∧ (gb, o2) ∈ σ.fs ∧ Bears Q pb gb o1 o2
  hol : ∃ v, c[15]? = some v ∧ HolesV σ.fs v H

/-- A command without an address is done; what it holds is known, and lies in the script. -/
theorem look_holds2 {p p3 : Pst} {c : List Value} {x i f : Nat} (hs : Scr lo hi w0 sb 0 σ) (hc : σ.cs[p.pc]? = some c) (hP : Plain c x)
    (ht : Instr.findNow (.int .u8) (.int .u8 x) (tabE 0 deedsL) 0 = some (some (i, .func (.func f) #[] #[]))) (hst : p.steps < 2000) (hpc : p.pc < 2000) (hen : Enters f)
    (hD : ∀ w2 s2 g, g < w0.heap.size → Mac w0 w2 mb sb db s2 → s2.p = p.on → (∀ j u, c[j]? = some u → w2.cell? ⟨g, p.pc * 23 + j, none⟩ = some u) → Calls Tryz.prog f #[.pointer (some ⟨mb, 0, none⟩), .pointer (some ⟨g, p.pc * 23, none⟩)] w2 fun r w' => r = .returned (.tuple #[]) ∧ Goes w0 mb sb db w2 s2 w' p3) : Look w0 mb sb db p p3 := fun w s hM hp => by
  have e1 : s.pc = p.pc := congrArg Pst.pc hp
  have e2 : s.steps = p.steps := congrArg Pst.steps hp
  obtain ⟨A, ca, h0⟩ := hP.c0
  obtain ⟨g, cap, hv, _⟩ := hs.cmd hc
  have hg : g < w0.heap.size := Nat.lt_of_lt_of_le (hs.h4 g (by rw [hv]; rfl)) hs.hi_le
  have key : ∀ wx, Kp [] w0 wx → ∀ j u, c[j]? = some u → wx.cell? ⟨g, p.pc * 23 + j, none⟩ = some u := fun wx kx => by
    obtain ⟨g', cap', hv', hcell⟩ := (hs.keep kx (fun _ e => by cases e)).cmd hc
    obtain rfl : g' = g := by rw [hv] at hv'; injection hv' with e _ _; injection e with e; injection e with e; exact e.symm
    exact hcell
  refine look_do (b := true) (p2 := p.on) hM hs (by rw [e1]; exact hc) hv hP.c3 hP.c2 ht (by omega) (by omega) hen (fun w1 s1 m1 q1' => ?_) rfl (fun w2 s2 m2 q2 => by rw [e1]; exact hD w2 s2 g hg m2 q2 (key w2 m2.r.kp))
  have e3 : s1.p = p.on := by rw [q1', hp, e1, e2]; rfl
  rw [← e3, e1]
  exact addressed_none m1 (key _ m1.r.kp 0 _ h0)

/-- What becomes of a text. -/
def Becomes (Q : Nat → World → Prop) (L : List UInt8) (H : List (Nat × Nat)) (g : Bool) (m : Nat) (sp T : List UInt8) (ok : Bool) : Prop :=
  ∀ w cb co pb, Q pb w → Rp w cb co pb L H g m → Calls Tryz.prog 84 #[.string (ba sp), .pointer (some ⟨cb, co, none⟩)] w fun r w' => Kp [] w w' ∧ r = .returned (.tuple #[.string (ba T), .bool ok])

theorem hole_cell {H : List (Nat × Nat)} {i a g : Nat} (h : H[i]? = some (a, g)) : (holeV H)[i * 2]? = some (.int .i64 (a : Int)) ∧ (holeV H)[i * 2 + 1]? = some (.int .i64 (g : Int)) := by
  induction H generalizing i with
  | nil => cases h
  | cons q H ih =>
    match i, h with
    | 0, h => injection h with h; subst h; exact ⟨rfl, rfl⟩
    | i + 1, h =>
      obtain ⟨h1, h2⟩ := ih (i := i) h
      constructor
      · rw [show (i + 1) * 2 = i * 2 + 2 by omega]; exact h1
      · rw [show (i + 1) * 2 + 1 = i * 2 + 1 + 2 by omega]; exact h2
theorem look_repl {p : Pst} {c : List Value} {Q : Nat → World → Prop} {L : List UInt8} {H : List (Nat × Nat)} {g : Bool} {m : Nat} {sp T : List UInt8} {ok : Bool} (hs : Scr lo hi w0 sb 0 σ) (hc : σ.cs[p.pc]? = some c) (hS : IsS σ c Q L H g m) (hst : p.steps < 2000) (hpc : p.pc < 2000) (hsp : p.space = ba sp) (hT : T.length ≤ 4000) (hB : Becomes Q L H g m sp T ok) :
    Look w0 mb sb db p (p.on.replaced T ok) := by
  refine look_holds2 hs hc hS.pl deed_s hst hpc enters_s (fun w2 s2 gb hgb m2 e2 hcell => ?_)
  have es : s2.space = ba sp := (congrArg Pst.space e2).trans hsp
  obtain ⟨pb, gp, o1, o2, p11, i1, i2, brs⟩ := hS.pat
  obtain ⟨v, p15, A, hc', rfl, hol⟩ := hS.hol
  have k2 := m2.r.kp
  have hfx : ∀ f ∈ σ.fs, w2.heap[f.1]? = some f.2 := fun f hf => (k2.block f.1 (lt_of_block (hs.fx f hf).1) (by simp)).trans (hs.fx f hf).1
  have hn : ∀ i, maB mb db s2.r i ≠ some gb := fun i e => by have := m2.r.bk.lo i gb e; omega
  have := replace_v (T := T) (ok := ok) (ca := gb) (co := p.pc * 23) m2 es hT (hcell 18 _ hS.c18) (hcell 6 _ hS.c6) hn (fun w3 k3 => ?_)
  · rw [e2] at this
    exact this
  · have c3 : ∀ j u, c[j]? = some u → w3.cell? ⟨gb, p.pc * 23 + j, none⟩ = some u := fun j u hu => (k3.cell (World.block_lt_of_cell? _ _ (hcell j u hu)) (by simp)).trans (hcell j u hu)
    have f3 : ∀ f ∈ σ.fs, w3.heap[f.1]? = some f.2 := fun f hf => (k3.block f.1 (lt_of_block (hfx f hf)) (by simp)).trans (hfx f hf)
    refine hB w3 gb (p.pc * 23 + 11) pb (brs w3 (f3 _ i1) (f3 _ i2)) ⟨c3 11 _ p11, c3 14 _ hS.c14, ⟨A, hc', c3 15 _ p15, fun i a g h => ?_⟩, c3 16 _ hS.c16, c3 17 _ hS.c17⟩
    rcases hol with rfl | ⟨hb, cells, rfl, hm, ht⟩
    · cases h
    · have hh := f3 _ hm
      have hi : i < H.length := (List.getElem?_eq_some_iff.1 h).1
      obtain ⟨q1, q2⟩ := hole_cell h
      rw [← ht, List.getElem?_take, if_pos (by omega)] at q1 q2
      refine ⟨hb, rfl, ?_, ?_⟩
      · simp only [World.cell?, hh]; simpa using q1
      · simp only [World.cell?, hh]; simpa using q2

theorem does_repl {c : List Value} {Q : Nat → World → Prop} {L : List UInt8} {H : List (Nat × Nat)} {g : Bool} {m : Nat} {rT : List UInt8 → List UInt8} (hc : σ.cs = [c]) (hq : σ.quiet = false) (hS : IsS σ c Q L H g m) (hB : ∀ sp, sp.length ≤ 1000 → ∃ ok, Becomes Q L H g m sp (rT sp) ok ∧ (ok = false → rT sp = sp)) (hlen : ∀ sp, (rT sp).length ≤ 3 * sp.length) : Does σ (fun _ l => rT l ++ [10]) (fun _ l => (rT l).length + 1) := by
  intro w0 mb sb db lo hi hs p k l hb hk hl hn
  have o := hb.out
  have hn' : p.count + ((rT l).length + 1) ≤ 190000 := hn
  obtain ⟨ok, hB1, hB2⟩ := hB l hl
  have hTl := hlen l
  have hsp2 : (p.on.replaced (rT l) ok).space = ba (rT l) := by
    cases ok with
    | true => rfl
    | false => show p.space = _; rw [hB2 rfl]; exact hb.space
  have e1 : (p.on.replaced (rT l) ok).pc = p.pc + 1 := by cases ok <;> rfl
  have e2 : (p.on.replaced (rT l) ok).count = p.count := by cases ok <;> rfl
  have e3 : (p.on.replaced (rT l) ok).out = p.out := by cases ok <;> rfl
  have e4 : (p.on.replaced (rT l) ok).br = p.br := by cases ok <;> rfl
  have e5 : (p.on.replaced (rT l) ok).over = p.over := by cases ok <;> rfl
  have e6 : (p.on.replaced (rT l) ok).wants = p.wants := by cases ok <;> rfl
  have hz : (p.on.replaced (rT l) ok).space.size = (rT l).length := by rw [hsp2, ba_size]
  have hd : (p.on.replaced (rT l) ok).space.data.toList = rT l := by rw [hsp2]; exact ba_list _
  refine ⟨(p.on.replaced (rT l) ok).endCycle σ.quiet, .more (look_repl hs (by rw [hb.pc, hc]; rfl) hS (by rw [hb.steps]; omega) (by rw [hb.pc]; omega) hb.space (by omega) hB1) (e5.trans hb.over) (e6.trans hb.wants) (.last (look_ends hs (by rw [e1, hb.pc, hc]; rfl) (by rw [e2, hz]; omega) (by rw [e3, e2]; exact hb.out) (e4.trans hb.br))), ?_⟩
  rw [hq]
  have e7 : (p.on.replaced (rT l) ok).err = p.err := by cases ok <;> rfl
  have e8 : (p.on.replaced (rT l) ok).status = p.status := by cases ok <;> rfl
  have e9 : (p.on.replaced (rT l) ok).ahead = p.ahead := by cases ok <;> rfl
  have e10 : (p.on.replaced (rT l) ok).fb = p.fb := by cases ok <;> rfl
  have e11 : (p.on.replaced (rT l) ok).left = p.left := by cases ok <;> rfl
  have e12 : (p.on.replaced (rT l) ok).ended = p.ended := by cases ok <;> rfl
  have e13 : (p.on.replaced (rT l) ok).number = p.number := by cases ok <;> rfl
  generalize p.on.replaced (rT l) ok = P at *
  refine ⟨⟨rfl, e5.trans hb.over, e7.trans hb.err, e8.trans hb.status, e9.trans hb.ahead, e4.trans hb.br, ?_, hb.fb.up e10 (by show p.count ≤ P.count + P.space.size + 1; omega)⟩, e11, e12, e13, ?_, ?_⟩
  · show (P.out ++ P.space.data.toList ++ [10]).length ≤ P.count + P.space.size + 1
    rw [hd, hz, e3, e2]; simp; omega
  · show P.out ++ P.space.data.toList ++ [10] = _
    rw [hd, e3]; simp
  · show P.count + P.space.size + 1 = p.count + ((rT l).length + 1)
    rw [hz, e2]; omega
end
end Go.Proofs.YtonnimbcekhbgaaGreatDoor

/- KU. -/
namespace Go.Proofs.YtonnimbcekhbgaaGreatDoor
open Go.RowKit

/-- The notes of a place: whole, and each group. -/
def ntF (L a j : Nat) : Nat := if j % 2 = 0 then a else a + L
theorem ntF_even (L a h : Nat) : ntF L a (2 * h) = a := by unfold ntF; rw [if_pos (by omega)]
theorem ntF_odd (L a h : Nat) : ntF L a (2 * h + 1) = a + L := by unfold ntF; rw [if_neg (by omega)]

/-- A pattern in memory that is found where q says so, L bytes long. -/
def FixQ (Q : Nat → World → Prop) (L G : Nat) (q : List UInt8 → Nat → Bool) : Prop :=
  ∀ pb w, Q pb w → ∃ g c n D bg cd, Cd w pb g c n D cd ∧ w.cell? ⟨pb, 1, none⟩ = some (.int .i64 ((bg : Nat) : Int)) ∧ w.cell? ⟨pb, 2, none⟩ = some (.int .i64 G) ∧ bg < n ∧ n * (D + 1) ≤ 9000 ∧
    ∀ sp : List UInt8, sp.length ≤ 1000 → ∃ nt, Fix cd n D bg (ba sp) L (q sp) nt ∧ ∀ a j, j < 2 + 2 * G → nt a j = (ntF L a j : Int)

/-- All its places. -/
def plcs (q : List UInt8 → Nat → Bool) (L : Nat) (sp : List UInt8) : List Nat := occs (q sp) (sp.length + 1) L (sp.length + 1) 0
/-- What is told of them. -/
def rsOf (q : List UInt8 → Nat → Bool) (L : Nat) (plain : List UInt8) (holes : List (Nat × Nat)) (all : Bool) (num : Nat) (sp : List UInt8) : Rs :=
  stR sp plain holes L num (ntF L) (plcs q L sp) (if all then (plcs q L sp).length else max num 1)
def repT (q : List UInt8 → Nat → Bool) (L : Nat) (plain : List UInt8) (holes : List (Nat × Nat)) (all : Bool) (num : Nat) (sp : List UInt8) : List UInt8 :=
  (rsOf q L plain holes all num sp).acc ++ sp.drop (rsOf q L plain holes all num sp).done

section
variable {Q : Nat → World → Prop} {L G num : Nat} {q : List UInt8 → Nat → Bool} {plain : List UInt8} {holes : List (Nat × Nat)} {all : Bool}
theorem plcs_asc (sp : List UInt8) : ∀ i a a' : Nat, (plcs q L sp)[i]? = some a → (plcs q L sp)[i + 1]? = some a' → a + L ≤ a' := fun i a a' h h' => (occs_at _ _ i a h).2.2 a' h'
theorem plcs_q {sp : List UInt8} {a : Nat} (h : a ∈ plcs q L sp) : q sp a = true := by
  obtain ⟨i, hi, e⟩ := List.getElem_of_mem h
  exact (occs_at _ _ i a (by rw [← e]; exact List.getElem?_eq_getElem hi)).1

theorem repT_len (hq : ∀ sp a, q sp a = true → a + L ≤ sp.length) (hp : ∀ sp a, q sp a = true → (putN plain sp (ntF L a) 0 holes).length ≤ 3 * L) (sp : List UInt8) : (repT q L plain holes all num sp).length ≤ 3 * sp.length :=
  law_len (plcs_asc sp) (fun a ha => hq sp a (plcs_q ha)) (fun a ha => hp sp a (plcs_q ha)) _

theorem becomes_fix (hF : FixQ Q L G q) (hL : 1 ≤ L) (hL3 : L ≤ 1000) (hG : G ≤ 9) (hq : ∀ sp a, q sp a = true → a + L ≤ sp.length) (hho : ∀ (i x h : Nat), holes[i]? = some (x, h) → x ≤ plain.length ∧ h ≤ G) (hO : ∀ (i x h x' h' : Nat), holes[i]? = some (x, h) → holes[i + 1]? = some (x', h') → x ≤ x') (hpl : plain.length ≤ 2000) (hhl : holes.length ≤ 50) (hnum : num ≤ 10000)
    (hp : ∀ sp a, q sp a = true → (putN plain sp (ntF L a) 0 holes).length ≤ 3 * L) (sp : List UInt8) (hsp : sp.length ≤ 1000) :
    ∃ ok, Becomes Q plain holes all num sp (repT q L plain holes all num sp) ok ∧ (ok = false → repT q L plain holes all num sp = sp) := by
  have hno : (rsOf q L plain holes all num sp).ok = false → repT q L plain holes all num sp = sp := fun h => by
    unfold repT
    have := stR_no _ h
    rw [show rsOf q L plain holes all num sp = ⟨[], 0, false⟩ from this]
    simp
  refine ⟨(rsOf q L plain holes all num sp).ok, fun w cb co pb hQ hR => ?_, hno⟩
  obtain ⟨g, c, n, D, bg, cd, hcd, p1, p2, hbg, hn, hfx⟩ := hF pb w hQ
  obtain ⟨nt, fx, hnt⟩ := hfx sp hsp
  have hz : (ba sp).size = sp.length := ba_size sp
  have its := its_fix fx ((ba sp).size + 1) 0 mc0 (by omega) (by omega) rfl rfl clean0
  rw [hz] at its
  have hsm : ∀ i, (stR sp plain holes L num (ntF L) (plcs q L sp) i).acc.length ≤ 4000 := fun i => by
    have h1 := stR_small (num := num) (plcs_asc (q := q) (L := L) sp) (fun a ha => hp sp a (plcs_q ha)) i
    have h2 := stR_le (plain := plain) (holes := holes) (num := num) (nt := ntF L) (ps := plcs q L sp) (fun a ha => hq sp a (plcs_q ha)) i
    omega
  refine (replaced_v (ps := plcs q L sp) (ntI := nt) (nt := ntF L) (L := L) hR hcd p1 p2 hbg hn hG (by omega) its (fun a _ j hj => hnt a j hj) (fun a _ => ntF_even L a 0) (fun a _ => ntF_odd L a 0) (fun a ha => hq sp a (plcs_q ha)) (plcs_asc sp)
    (fun i x h hh => ⟨(hho i x h hh).1, (hho i x h hh).2, fun a ha => by rw [ntF_even, ntF_odd]; exact ⟨by omega, hq sp a (plcs_q ha)⟩⟩) hO hpl hhl hnum (by have := occs_len (q := q sp) (N := sp.length + 1) (L := L) (sp.length + 1) 0; unfold plcs; omega) hsm).mono ?_
  rintro r w' ⟨k, rs, hrs, rfl⟩
  refine ⟨k, ?_⟩
  have e : rs = rsOf q L plain holes all num sp := hrs
  rw [e]
  cases hok : (rsOf q L plain holes all num sp).ok with
  | true => rfl
  | false => rw [hno hok]; rfl

/-- A row of bytes. -/
theorem fixQ_row {t : List UInt8} (ht : t.length ≤ 150) (h1 : 1 ≤ t.length) : FixQ (rowQ t) t.length 0 (fun sp a => standsB (ba sp) (ba t) a) := by
  intro p w pt
  have hlen : (rowP t).length = t.length := (pcsOf_len (B := 0) (E := 0) (L := t.length) (ms := msOf t) (by omega) (by omega)).trans (by omega)
  obtain ⟨g, c, hcd⟩ := cd_of pt (fun q hq => pcsOf_kind q hq)
  have c1 := pt.c1
  have c2 := pt.c2
  have ebg : rowBegin (rowP t).reverse 1 0 = ((t.length : Nat) : Int) := by
    rw [rowBegin_eq]
    by_cases h0 : (rowP t).reverse = []
    · rw [if_pos h0]
      have : (rowP t).length = 0 := by rw [← List.length_reverse, h0]; rfl
      have h3 : t.length = 0 := by omega
      rw [h3]; rfl
    · rw [if_neg h0, List.length_reverse, hlen]; congr 1; omega
  rw [ebg] at c1
  have hok : Cok (cdOf (rowP t)) (1 + (rowP t).length) 0 (0 + t.length + 0) := ⟨hcd.ok, fun a ha h3 => absurd h3 (by have := (cdOf_kind (rowP t) (fun q hq => pcsOf_kind q hq) a ha); omega), by omega⟩
  refine ⟨g, c, 1 + (rowP t).length, 0, 0 + t.length + 0, cdOf (rowP t), hcd, by rw [c1]; congr 2; omega, c2, by omega, by omega, fun sp _ => ?_⟩
  have key : ∀ a, standsB (ba sp) (ba t) a = true ↔ Stands 0 0 t.length (msOf t) (ba sp) a := fun a => by
    rw [stands_iff, ba_size, ba_list]
    constructor
    · rintro ⟨h1, h2⟩; exact ⟨.inl rfl, h1, h2, fun h => by omega⟩
    · rintro ⟨_, h1, h2, _⟩; exact ⟨h1, h2⟩
  refine ⟨_, fix_row hok (chain_of (by omega) (by omega)) h1 key, fun a j hj => ?_⟩
  match j, hj with
  | 0, _ => simp [nu, nz, ntF]
  | 1, _ => simp [nu, ntF]
end
end Go.Proofs.YtonnimbcekhbgaaGreatDoor
