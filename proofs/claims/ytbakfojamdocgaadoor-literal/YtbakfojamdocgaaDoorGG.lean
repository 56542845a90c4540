/- The finder as a machine: all ways from one, at a place; what is not seen yet. -/
import Derived.Test.YtbakfojamdocgaaDoorGF
namespace Go.Proofs.YtbakfojamdocgaaDoor
open Go.RowKit

def seenAt (D : Nat) (t : Thr) : Nat := t.pc * (D + 1) + t.tk

/-- A way, if there is one, is gone as far as it goes, then the last one of those left, and so on. -/
def drive (cd : Nat → In) (D : Nat) (text : ByteArray) (pl : Nat) : Nat → Option Thr → Mc → Option Mc
  | 0, _, _ => none
  | k + 1, some t, s => if s.sn (seenAt D t) = ((pl + 1 : Nat) : Int) then drive cd D text pl k none s else
      drive cd D text pl k (stepA cd text pl t { s with sn := nu s.sn (seenAt D t) ((pl + 1 : Nat) : Int) }).1 (stepA cd text pl t { s with sn := nu s.sn (seenAt D t) ((pl + 1 : Nat) : Int) }).2
  | k + 1, none, s => match s.left.getLast? with
    | none => some s
    | some t => drive cd D text pl k (some t) { s with left := s.left.dropLast }

def Goes (cd : Nat → In) (D : Nat) (text : ByteArray) (pl : Nat) (o : Option Thr) (s s' : Mc) : Prop := ∃ k, drive cd D text pl k o s = some s'

section
variable {cd : Nat → In} {D : Nat} {text : ByteArray} {pl : Nat} {t : Thr} {s s' : Mc}

theorem goes_seen (h : s.sn (seenAt D t) = ((pl + 1 : Nat) : Int)) (g : Goes cd D text pl none s s') : Goes cd D text pl (some t) s s' := by
  obtain ⟨k, hk⟩ := g
  refine ⟨k + 1, ?_⟩
  rw [drive, if_pos h]; exact hk
theorem goes_step (h : ¬ s.sn (seenAt D t) = ((pl + 1 : Nat) : Int))
    (g : Goes cd D text pl (stepA cd text pl t { s with sn := nu s.sn (seenAt D t) ((pl + 1 : Nat) : Int) }).1 (stepA cd text pl t { s with sn := nu s.sn (seenAt D t) ((pl + 1 : Nat) : Int) }).2 s') : Goes cd D text pl (some t) s s' := by
  obtain ⟨k, hk⟩ := g
  refine ⟨k + 1, ?_⟩
  rw [drive, if_neg h]; exact hk
theorem goes_pop {l : List Thr} (h : s.left = l ++ [t]) (g : Goes cd D text pl (some t) { s with left := l } s') : Goes cd D text pl none s s' := by
  obtain ⟨k, hk⟩ := g
  refine ⟨k + 1, ?_⟩
  have e1 : s.left.getLast? = some t := by rw [h]; simp
  have e2 : s.left.dropLast = l := by rw [h]; simp
  rw [drive, e1, e2]; exact hk
theorem goes_pop_inv {l : List Thr} (h : s.left = l ++ [t]) (g : Goes cd D text pl none s s') : Goes cd D text pl (some t) { s with left := l } s' := by
  obtain ⟨k, hk⟩ := g
  have e1 : s.left.getLast? = some t := by rw [h]; simp
  have e2 : s.left.dropLast = l := by rw [h]; simp
  match k, hk with
  | k + 1, hk =>
    rw [drive, e1, e2] at hk
    exact ⟨k, hk⟩
theorem goes_done (h : s.left = []) : Goes cd D text pl none s s := ⟨1, by rw [drive, h]; rfl⟩
end

/-- How many of the first N are not marked with the place. -/
def uns (sn : Nat → Int) (v : Int) : Nat → Nat
  | 0 => 0
  | k + 1 => uns sn v k + (if sn k = v then 0 else 1)
theorem uns_far (sn : Nat → Int) (v : Int) (i : Nat) : ∀ N, N ≤ i → uns (nu sn i v) v N = uns sn v N
  | 0, _ => rfl
  | k + 1, h => by
    have e : nu sn i v k = sn k := by unfold nu; rw [if_neg (by omega)]
    rw [uns, uns, uns_far sn v i k (by omega), e]
theorem uns_mark (sn : Nat → Int) (v : Int) (i : Nat) (hne : ¬ sn i = v) : ∀ N, i < N → uns (nu sn i v) v N + 1 = uns sn v N
  | 0, h => absurd h (by omega)
  | k + 1, h => by
    by_cases e : i = k
    · subst e
      have e1 : nu sn i v i = v := by unfold nu; rw [if_pos rfl]
      rw [uns, uns, uns_far sn v i i (Nat.le_refl _), e1, if_pos rfl, if_neg hne]
    · have e1 : nu sn i v k = sn k := by unfold nu; rw [if_neg (by omega)]
      have := uns_mark sn v i hne k (by omega)
      rw [uns, uns, e1]; omega
theorem uns_le (sn : Nat → Int) (v : Int) : ∀ N, uns sn v N ≤ N
  | 0 => Nat.le_refl _
  | k + 1 => by
    have := uns_le sn v k
    rw [uns]; split <;> omega

/-- The same, off the memory. -/
def isAt (w : World) (a : Addr) (v : Int) : Bool := match w.cell? a with
  | some (.int _ x) => x == v
  | _ => false
def unsW (w : World) (sb : Nat) (v : Int) : Nat → Nat
  | 0 => 0
  | k + 1 => unsW w sb v k + (if isAt w ⟨sb, k, none⟩ v = true then 0 else 1)
def leftW (w : World) (f : Nat) : Nat := match w.cell? ⟨f, 5, none⟩ with
  | some (.slice _ n _) => n
  | _ => 0
theorem unsW_eq {W : World} {sb : Nat} {sn : Nat → Int} (v : Int) : ∀ N, (∀ i, i < N → W.cell? ⟨sb, i, none⟩ = some (.int .i64 (sn i))) → unsW W sb v N = uns sn v N
  | 0, _ => rfl
  | k + 1, h => by
    have e : isAt W ⟨sb, k, none⟩ v = (sn k == v) := by unfold isAt; rw [h k (by omega)]
    rw [unsW, uns, unsW_eq v k (fun i hi => h i (by omega)), e]
    by_cases q : sn k = v <;> simp [q]

section
variable {w W W' : World} {f p sb N pl : Nat} {text : ByteArray} {here : List Thr} {v3 v4 v5 : Value} {s : Mc}
theorem Fg.uns (h : Fg w W f p sb N pl text here v3 v4 v5 s) (v : Int) : unsW W sb v N = Go.Proofs.YtbakfojamdocgaaDoor.uns s.sn v N := unsW_eq v N (fun i hi => (h.seen i hi).1)
theorem own_form {base size n : Nat} {e : TypeId} {v : Value} {xs : List Value} (h : W.ownsRow base e size v n xs) : (v = .slice none 0 0 ∧ n = 0) ∨ ∃ g c, v = .slice (some ⟨g, 0, none⟩) n c := by
  rcases h.2 with q | ⟨g, cap, cur, q, _⟩
  · exact .inl q
  · exact .inr ⟨g, cap, q⟩
theorem Fg.left (h : Fg w W f p sb N pl text here v3 v4 v5 s) : leftW W f = s.left.length := by
  unfold leftW
  rw [h.c5]
  rcases own_form h.o5 with ⟨q, q2⟩ | ⟨g, c, q⟩
  · rw [q, q2]
  · rw [q]
end

set_option maxRecDepth 100000 in
set_option maxHeartbeats 1000000 in
theorem first_no {w : World} {f p t sb N a dp dp1 m1 tk idx pl pl1 : Nat}
    (c0 : w.cell? ⟨f, 0, none⟩ = some (.pointer (some ⟨p, 0, none⟩))) (c2 : w.cell? ⟨f, 2, none⟩ = some (.int .i64 pl)) (c6 : w.cell? ⟨f, 6, none⟩ = some (.slice (some ⟨sb, 0, none⟩) N N))
    (p3 : w.cell? ⟨p, 3, none⟩ = some (.int .i64 dp)) (t0 : w.cell? ⟨t, 0, none⟩ = some (.int .i64 a)) (t1 : w.cell? ⟨t, 1, none⟩ = some (.int .i64 tk))
    (s0 : w.cell? ⟨sb, idx, none⟩ = some (.int .i64 pl1)) (hix : idx < N) (hN : N ≤ 1000000) (hpl : pl1 ≤ 1000000)
    (e1 : (dp : Int) + 1 = dp1) (e2 : (a : Int) * dp1 = m1) (e3 : (m1 : Int) + tk = idx) (e4 : (pl : Int) + 1 = pl1) (hd : dp1 ≤ 1000000) (hm : m1 ≤ 1000000) :
    Calls Tryd.prog 27 #[.pointer (some ⟨f, 0, none⟩), .pointer (some ⟨t, 0, none⟩)] w fun e w' => e = .returned (.bool false) ∧ Kp [] w w' := by
  have w1 := wrap_i64_nat dp1 (by omega)
  have w2 := wrap_i64_nat m1 (by omega)
  have w3 := wrap_i64_nat idx (by omega)
  have w4 := wrap_i64_nat pl1 (by omega)
  go_enter Tryd.func27, Tryd.ntmps27
  go_wp2
  go_quiet (fail)
  go_wp2
  go_quiet (fail)
  go_wp2
  go_ret
  exact ⟨rfl, (Kp.drewN _ _ _).trans (Kp.drewN _ _ _)⟩

section
variable {w W : World} {f p g c n D sb N pl T : Nat} {text : ByteArray} {here : List Thr} {v3 v4 v5 : Value} {s : Mc} {cd : Nat → In} {t : Thr}

/-- first: whether no way ahead of this one came here; it is marked. -/
theorem first_any (h : Fg w W f p sb N pl text here v3 v4 v5 s) (tb : Tb w W f sb v3 v4 v5 T t) (hcd : Cd w p g c n D cd) (ht : t.pc < n) (hk : t.tk ≤ D) (hN : N = n * (D + 1)) (hb : N ≤ 100000) (hpl : pl ≤ 100000) :
    Calls Tryd.prog 27 #[.pointer (some ⟨f, 0, none⟩), .pointer (some ⟨T, 0, none⟩)] W fun e W' =>
      (s.sn (seenAt D t) = ((pl + 1 : Nat) : Int) ∧ e = .returned (.bool false) ∧ Fg w W' f p sb N pl text here v3 v4 v5 s ∧ Tb w W' f sb v3 v4 v5 T t) ∨
      (¬ s.sn (seenAt D t) = ((pl + 1 : Nat) : Int) ∧ e = .returned (.bool true) ∧ Fg w W' f p sb N pl text here v3 v4 v5 { s with sn := nu s.sn (seenAt D t) ((pl + 1 : Nat) : Int) } ∧ Tb w W' f sb v3 v4 v5 T t) := by
  have hC := hcd.keep h.kp
  have hix : seenAt D t < N := by
    have h1 : t.pc * (D + 1) + (D + 1) ≤ n * (D + 1) := by
      have := Nat.mul_le_mul_right (D + 1) (show t.pc + 1 ≤ n from ht)
      rwa [Nat.add_mul, Nat.one_mul] at this
    unfold seenAt; rw [hN]; omega
  have hm1 : t.pc * (D + 1) ≤ N := Nat.le_trans (Nat.le_add_right _ _) (Nat.le_of_lt hix)
  have hD : D + 1 ≤ N := by
    rw [hN]
    have := Nat.mul_le_mul_right (D + 1) (show 1 ≤ n by omega)
    rwa [Nat.one_mul] at this
  have q := h.seen _ hix
  by_cases hs : s.sn (seenAt D t) = ((pl + 1 : Nat) : Int)
  · rw [hs] at q
    refine (first_no (dp := D) (dp1 := D + 1) (m1 := t.pc * (D + 1)) (tk := t.tk) (idx := seenAt D t) (pl := pl) (pl1 := pl + 1) (N := N) h.c0 h.c2 h.c6 hC.p3 tb.t0 tb.t1 q.1 hix (by omega) (by omega) (by omega) (by push_cast; rfl) (by unfold seenAt; push_cast; rfl) (by omega) (by omega) (by omega)).mono ?_
    rintro e W' ⟨he, k⟩
    exact .inl ⟨hs, he, h.keep k, tb.keep k⟩
  · refine (first_yes (dp := D) (dp1 := D + 1) (m1 := t.pc * (D + 1)) (tk := t.tk) (idx := seenAt D t) (pl := pl) (pl1 := pl + 1) (N := N) h.c0 h.c2 h.c6 hC.p3 tb.t0 tb.t1 q.1 q.2 (by rw [beq_eq_false_iff_ne]; exact hs) hix (by omega) (by omega) (by omega) (by push_cast; rfl) (by unfold seenAt; push_cast; rfl) (by omega) (by omega) (by omega)).mono ?_
    rintro e W' ⟨he, k, rfl⟩
    have h2 := (h.keep (Kp.drewN [] W k)).mark _ hix ((pl + 1 : Nat) : Int)
    refine .inr ⟨hs, he, h2, ?_⟩
    exact (tb.keep (Kp.drewN [] W k)).stay (Below.heap_setCell _ _ _ _ tb.far.ns) (by simp [World.setCell]) tb.far.n4 tb.far.n5
end
end Go.Proofs.YtbakfojamdocgaaDoor
