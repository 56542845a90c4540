/- The finder as a machine: all ways from one, at a place; what is not seen yet. -/
import Derived.Test.YtanpiomfnbiilaaDoorGF
namespace Go.Proofs.YtanpiomfnbiilaaDoor
open Go.RowKit

def seenAt (n D pl : Nat) (t : Thr) : Nat := (pl * n + t.pc) * (D + 1) + t.tk

/-- A way, if there is one, is gone as far as it goes, then the last one of those left, and so on. -/
def drive (cd : Nat → In) (n D : Nat) (text : ByteArray) (pl : Nat) : Nat → Option Thr → Mc → Option Mc
  | 0, _, _ => none
  | k + 1, some t, s => if s.sn (seenAt n D pl t) = true then drive cd n D text pl k none s else
      drive cd n D text pl k (stepA cd text pl t { s with sn := more s.sn (seenAt n D pl t) }).1 (stepA cd text pl t { s with sn := more s.sn (seenAt n D pl t) }).2
  | k + 1, none, s => match s.left.getLast? with
    | none => some s
    | some t => drive cd n D text pl k (some t) { s with left := s.left.dropLast }

def Goes (cd : Nat → In) (n D : Nat) (text : ByteArray) (pl : Nat) (o : Option Thr) (s s' : Mc) : Prop := ∃ k, drive cd n D text pl k o s = some s'

section
variable {cd : Nat → In} {n D : Nat} {text : ByteArray} {pl : Nat} {t : Thr} {s s' : Mc}

theorem goes_seen (h : s.sn (seenAt n D pl t) = true) (g : Goes cd n D text pl none s s') : Goes cd n D text pl (some t) s s' := by
  obtain ⟨k, hk⟩ := g
  refine ⟨k + 1, ?_⟩
  rw [drive, if_pos h]; exact hk
theorem goes_step (h : ¬ s.sn (seenAt n D pl t) = true)
    (g : Goes cd n D text pl (stepA cd text pl t { s with sn := more s.sn (seenAt n D pl t) }).1 (stepA cd text pl t { s with sn := more s.sn (seenAt n D pl t) }).2 s') : Goes cd n D text pl (some t) s s' := by
  obtain ⟨k, hk⟩ := g
  refine ⟨k + 1, ?_⟩
  rw [drive, if_neg h]; exact hk
theorem goes_pop {l : List Thr} (h : s.left = l ++ [t]) (g : Goes cd n D text pl (some t) { s with left := l } s') : Goes cd n D text pl none s s' := by
  obtain ⟨k, hk⟩ := g
  refine ⟨k + 1, ?_⟩
  have e1 : s.left.getLast? = some t := by rw [h]; simp
  have e2 : s.left.dropLast = l := by rw [h]; simp
  rw [drive, e1, e2]; exact hk
theorem goes_pop_inv {l : List Thr} (h : s.left = l ++ [t]) (g : Goes cd n D text pl none s s') : Goes cd n D text pl (some t) { s with left := l } s' := by
  obtain ⟨k, hk⟩ := g
  have e1 : s.left.getLast? = some t := by rw [h]; simp
  have e2 : s.left.dropLast = l := by rw [h]; simp
  match k, hk with
  | k + 1, hk =>
    rw [drive, e1, e2] at hk
    exact ⟨k, hk⟩
theorem goes_done (h : s.left = []) : Goes cd n D text pl none s s := ⟨1, by rw [drive, h]; rfl⟩
end

/-- How many of N from one on are not marked. -/
def uns (sn : Nat → Bool) (v : Nat) : Nat → Nat
  | 0 => 0
  | k + 1 => uns sn v k + (if sn (v + k) = true then 0 else 1)
theorem uns_far (sn : Nat → Bool) (v i : Nat) : ∀ N, N ≤ i → uns (more sn (v + i)) v N = uns sn v N
  | 0, _ => rfl
  | k + 1, h => by
    have e : more sn (v + i) (v + k) = sn (v + k) := by
      have : (v + k == v + i) = false := by rw [beq_eq_false_iff_ne]; omega
      simp [more, this]
    rw [uns, uns, uns_far sn v i k (by omega), e]
theorem uns_mark (sn : Nat → Bool) (v i : Nat) (hne : ¬ sn (v + i) = true) : ∀ N, i < N → uns (more sn (v + i)) v N + 1 = uns sn v N
  | k + 1, h => by
    by_cases e : i = k
    · subst e
      have e1 : more sn (v + i) (v + i) = true := by simp [more]
      rw [uns, uns, uns_far sn v i i (Nat.le_refl _), e1, if_pos rfl, if_neg hne]
    · have e1 : more sn (v + i) (v + k) = sn (v + k) := by
        have : (v + k == v + i) = false := by rw [beq_eq_false_iff_ne]; omega
        simp [more, this]
      have := uns_mark sn v i hne k (by omega)
      rw [uns, uns, e1]; omega
theorem uns_le (sn : Nat → Bool) (v : Nat) : ∀ N, uns sn v N ≤ N
  | 0 => Nat.le_refl _
  | k + 1 => by
    have := uns_le sn v k
    rw [uns]; split <;> omega

/-- The same, off the memory. -/
def isAt (w : World) (sb x : Nat) : Bool := match w.cell? ⟨sb, x / 64, none⟩ with
  | some (.int _ v) => v.toNat.testBit (x % 64)
  | _ => false
def unsW (w : World) (sb v : Nat) : Nat → Nat
  | 0 => 0
  | k + 1 => unsW w sb v k + (if isAt w sb (v + k) = true then 0 else 1)
def leftW (w : World) (f : Nat) : Nat := match w.cell? ⟨f, 5, none⟩ with
  | some (.slice _ n _) => n
  | _ => 0
theorem isAt_eq {W : World} {sb x : Nat} {sn : Nat → Bool} (h : W.cell? ⟨sb, x / 64, none⟩ = some (.int .u64 (wd sn (x / 64)))) : isAt W sb x = sn x := by
  unfold isAt
  rw [h]
  show (Int.toNat (wd sn (x / 64) : Int)).testBit (x % 64) = _
  rw [Int.toNat_natCast, wd_bit, Nat.div_add_mod, decide_eq_true (Nat.mod_lt _ (by decide)), Bool.true_and]
theorem unsW_eq {W : World} {sb : Nat} {sn : Nat → Bool} (v : Nat) : ∀ N, (∀ i, i < N → W.cell? ⟨sb, (v + i) / 64, none⟩ = some (.int .u64 (wd sn ((v + i) / 64)))) → unsW W sb v N = uns sn v N
  | 0, _ => rfl
  | k + 1, h => by
    rw [unsW, uns, unsW_eq v k (fun i hi => h i (by omega)), isAt_eq (h k (by omega))]

section
variable {w W W' : World} {f p sb N pl : Nat} {text : ByteArray} {here : List Thr} {v3 v4 v5 : Value} {s : Mc}
theorem Fg.uns (h : Fg w W f p sb N pl text here v3 v4 v5 s) (v M : Nat) (hM : v + M ≤ 64 * N) : unsW W sb v M = Go.Proofs.YtanpiomfnbiilaaDoor.uns s.sn v M := unsW_eq v M (fun i hi => (h.seen _ (by omega)).1)
theorem own_form {base size n : Nat} {e : TypeId} {v : Value} {xs : List Value} (h : W.ownsRow base e size v n xs) : (v = .slice none 0 0 ∧ n = 0) ∨ ∃ g c, v = .slice (some ⟨g, 0, none⟩) n c := by
  rcases h.2 with q | ⟨g, cap, cur, q, _⟩
  · exact .inl q
  · exact .inr ⟨g, cap, q⟩
theorem Fg.left (h : Fg w W f p sb N pl text here v3 v4 v5 s) : leftW W f = s.left.length := by
  unfold leftW
  rw [h.c5]
  rcases own_form h.o5 with ⟨q, q2⟩ | ⟨g, c, q⟩
  · rw [q, q2]
  · rw [q]
end

section
variable {w W : World} {f p g c n D sb N pl T : Nat} {text : ByteArray} {here : List Thr} {v3 v4 v5 : Value} {s : Mc} {cd : Nat → In} {t : Thr}

theorem seenAt_eq (n D pl : Nat) (t : Thr) : seenAt n D pl t = pl * (n * (D + 1)) + (t.pc * (D + 1) + t.tk) := by
  unfold seenAt; rw [Nat.add_mul, Nat.mul_assoc, Nat.add_assoc]
theorem at_lt {n D : Nat} {t : Thr} (ht : t.pc < n) (hk : t.tk ≤ D) : t.pc * (D + 1) + t.tk < n * (D + 1) := by
  have := Nat.mul_le_mul_right (D + 1) (show t.pc + 1 ≤ n from ht)
  rw [Nat.add_mul, Nat.one_mul] at this
  omega
theorem seenAt_lt {n D pl L : Nat} {t : Thr} (ht : t.pc < n) (hk : t.tk ≤ D) (hpl : pl ≤ L) : seenAt n D pl t < (L + 1) * (n * (D + 1)) := by
  rw [seenAt_eq]
  have h1 := at_lt ht hk
  have h2 := Nat.mul_le_mul_right (n * (D + 1)) hpl
  rw [Nat.add_mul, Nat.one_mul]
  omega

/-- first: whether no way ahead of this one came here; it is marked. -/
theorem first_any (h : Fg w W f p sb N pl text here v3 v4 v5 s) (tb : Tb w W f sb v3 v4 v5 T t) (hcd : Cd w p g c n D cd) (ht : t.pc < n) (hk : t.tk ≤ D) (hN : (text.size + 1) * (n * (D + 1)) ≤ 64 * N) (hb : N ≤ 1000000) (hpl : pl ≤ text.size) :
    Calls Tryd.prog 37 #[.pointer (some ⟨f, 0, none⟩), .pointer (some ⟨T, 0, none⟩)] W fun e W' =>
      (s.sn (seenAt n D pl t) = true ∧ e = .returned (.bool false) ∧ Fg w W' f p sb N pl text here v3 v4 v5 s ∧ Tb w W' f sb v3 v4 v5 T t) ∨
      (¬ s.sn (seenAt n D pl t) = true ∧ e = .returned (.bool true) ∧ Fg w W' f p sb N pl text here v3 v4 v5 { s with sn := more s.sn (seenAt n D pl t) } ∧ Tb w W' f sb v3 v4 v5 T t) := by
  have hC := hcd.keep h.kp
  have hx := seenAt_lt ht hk hpl
  have hlt : seenAt n D pl t < 64 * N := Nat.lt_of_lt_of_le hx hN
  have hix : seenAt n D pl t / 64 < N := by omega
  have q := h.seen _ hix
  have hD : D + 1 ≤ 64 * N := by
    refine Nat.le_trans ?_ hN
    have h1 := Nat.mul_le_mul_right (D + 1) (show 1 ≤ n by omega)
    have h2 := Nat.mul_le_mul_right (n * (D + 1)) (show 1 ≤ text.size + 1 by omega)
    omega
  have hm2 : (pl * n + t.pc) * (D + 1) ≤ 64 * N := by unfold seenAt at hlt; omega
  have hm1 : pl * n + t.pc ≤ 64 * N := by
    have := Nat.mul_le_mul_left (pl * n + t.pc) (show 1 ≤ D + 1 by omega)
    omega
  have hm0 : pl * n ≤ 64 * N := by omega
  by_cases hs : s.sn (seenAt n D pl t) = true
  · refine (first_no (v := (wd s.sn (seenAt n D pl t / 64) : Int)) (dp := D) (dp1 := D + 1) (m0 := pl * n) (m1 := pl * n + t.pc) (m2 := (pl * n + t.pc) * (D + 1)) (tk := t.tk) (x := seenAt n D pl t) (pl := pl) (N := N) h.c0 h.c2 h.c6 hC.p0 hC.p3 tb.t0 tb.t1 q.1 hix (by omega) (by push_cast; rfl) (by push_cast; rfl) (by push_cast; rfl) (by push_cast; rfl) (by unfold seenAt; push_cast; rfl) (by omega) (by omega) (by omega) (by omega) (by omega) (and_yes hs)).mono ?_
    rintro e W' ⟨he, k⟩
    exact .inl ⟨hs, he, h.keep k, tb.keep k⟩
  · refine (first_yes (v := (wd s.sn (seenAt n D pl t / 64) : Int)) (dp := D) (dp1 := D + 1) (m0 := pl * n) (m1 := pl * n + t.pc) (m2 := (pl * n + t.pc) * (D + 1)) (tk := t.tk) (x := seenAt n D pl t) (pl := pl) (N := N) h.c0 h.c2 h.c6 hC.p0 hC.p3 tb.t0 tb.t1 q.1 q.2 hix (by omega) (by push_cast; rfl) (by push_cast; rfl) (by push_cast; rfl) (by push_cast; rfl) (by unfold seenAt; push_cast; rfl) (by omega) (by omega) (by omega) (by omega) (by omega) (and_no (by simpa using hs))).mono ?_
    rintro e W' ⟨he, k, rfl⟩
    have h2 := (h.keep (Kp.drewN [] W k)).mark _ hix
    rw [more_same]
    refine .inr ⟨hs, he, h2, ?_⟩
    exact (tb.keep (Kp.drewN [] W k)).stay (Below.heap_setCell _ _ _ _ tb.far.ns) (by simp [World.setCell]) tb.far.n4 tb.far.n5
end
end Go.Proofs.YtanpiomfnbiilaaDoor
