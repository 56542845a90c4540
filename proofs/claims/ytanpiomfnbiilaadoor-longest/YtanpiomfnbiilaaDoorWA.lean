/- The ways through a code, one by one; that the machine finds one of them, the first place and the greatest length of all: pure. -/
import Derived.Test.YtanpiomfnbiilaaDoorGK
namespace Go.Proofs.YtanpiomfnbiilaaDoor
open Go.RowKit

/-- Where a way may go on at the same place. -/
def epsC (cd : Nat → In) (text : ByteArray) (pl pc tk : Nat) : List (Nat × Nat) :=
  if (cd pc).kind = 1 then (if pl = 0 then [((cd pc).nx, tk)] else [])
  else if (cd pc).kind = 2 then (if pl = text.size then [((cd pc).nx, tk)] else [])
  else if (cd pc).kind = 3 then [((cd pc).nx, tk)]
  else if (cd pc).kind = 4 then [((cd pc).nx, tk), ((cd pc).ot, tk)]
  else if (cd pc).kind = 5 then (if tk ≤ (cd pc).dp then [] else [((cd pc).nx, (cd pc).dp)])
  else []
/-- What is noted. -/
def noteE (cd : Nat → In) (pl pc : Nat) (x : Nat → Int) : Nat → Int := if (cd pc).kind = 3 then nu x (cd pc).sl pl else x
def eps (cd : Nat → In) (text : ByteArray) (pl : Nat) (t : Thr) : List Thr := (epsC cd text pl t.pc t.tk).map fun c => ⟨c.1, c.2, noteE cd pl t.pc t.x⟩
/-- Does it take the byte here? -/
def takesB (cd : Nat → In) (text : ByteArray) (pl : Nat) (t : Thr) : Bool :=
  decide ((cd t.pc).kind = 0) && (if h : pl < text.size then (cd t.pc).m (text[pl]'h).toNat else false)
/-- Where it is then. -/
def behind (cd : Nat → In) (t : Thr) : Thr := ⟨(cd t.pc).nx, (cd t.pc).dp, t.x⟩

theorem Mc.ext' {s s' : Mc} (h1 : s.ahead = s'.ahead) (h2 : s.left = s'.left) (h3 : s.sn = s'.sn) (h4 : s.fd = s'.fd) (h5 : s.best = s'.best) : s = s' := by
  cases s; cases s'; simp_all

/-- One instruction, told by these. -/
theorem stepA_eq {cd : Nat → In} {text : ByteArray} {pl : Nat} {t : Thr} (hk : (cd t.pc).kind ≤ 6) (s : Mc) :
    stepA cd text pl t s = ((eps cd text pl t).head?, { s with ahead := s.ahead ++ (if takesB cd text pl t = true then [behind cd t] else []), left := s.left ++ (eps cd text pl t).tail, fd := (s.fd || decide ((cd t.pc).kind = 6)), best := if (cd t.pc).kind = 6 then nu t.x 1 pl else s.best }) := by
  rcases kind_cases hk with e | e | e | e | e | e | e
  · by_cases hlt : pl < text.size
    · by_cases hm : (cd t.pc).m (text[pl]).toNat = true
      · simp [stepA, eps, epsC, noteE, takesB, behind, e, hlt, hm]
      · simp [stepA, eps, epsC, noteE, takesB, e, hlt, hm]
    · simp [stepA, eps, epsC, noteE, takesB, e, hlt]
  · by_cases h0 : pl = 0 <;> simp [stepA, eps, epsC, noteE, takesB, e, h0]
  · by_cases h0 : pl = text.size <;> simp [stepA, eps, epsC, noteE, takesB, e, h0]
  · simp [stepA, eps, epsC, noteE, takesB, e]
  · simp [stepA, eps, epsC, noteE, takesB, e]
  · by_cases h0 : t.tk ≤ (cd t.pc).dp <;> simp [stepA, eps, epsC, noteE, takesB, e, h0]
  · simp [stepA, eps, epsC, noteE, takesB, e]

/-- The ways from the places fr on. -/
inductive Way (cd : Nat → In) (text : ByteArray) (bg fr : Nat) : Nat → Thr → Prop
  | start (a : Nat) (h : fr ≤ a) (h2 : a ≤ text.size) : Way cd text bg fr a ⟨bg, 0, nz a⟩
  | eps {pl : Nat} {t u : Thr} (h : Way cd text bg fr pl t) (hu : u ∈ eps cd text pl t) : Way cd text bg fr pl u
  | byte {pl : Nat} {t : Thr} (h : Way cd text bg fr pl t) (hb : takesB cd text pl t = true) : Way cd text bg fr (pl + 1) (behind cd t)

/-- A code that is well made. -/
structure Cok (cd : Nat → In) (n D bg : Nat) : Prop where
  ok : ∀ a, a < n → (cd a).kind ≤ 6 ∧ (cd a).nx < n ∧ (cd a).ot < n ∧ (cd a).sl < 20 ∧ (cd a).dp ≤ D
  sl : ∀ a, a < n → (cd a).kind = 3 → 2 ≤ (cd a).sl
  bg : bg < n

section
variable {cd : Nat → In} {n D bg fr pl : Nat} {text : ByteArray} {t u : Thr} {s s' : Mc}

theorem epsC_ok (hc : Cok cd n D bg) {pc tk : Nat} (h1 : pc < n) (h2 : tk ≤ D) {c : Nat × Nat} (hu : c ∈ epsC cd text pl pc tk) : c.1 < n ∧ c.2 ≤ D := by
  have ok := hc.ok pc h1
  unfold epsC at hu
  repeat' split at hu
  all_goals simp at hu
  all_goals first
    | (subst hu; exact ⟨ok.2.1, by first | exact h2 | exact ok.2.2.2.2⟩)
    | (rcases hu with rfl | rfl
       · exact ⟨ok.2.1, h2⟩
       · exact ⟨ok.2.2.1, h2⟩)
theorem eps_ok (hc : Cok cd n D bg) (ht : okT n D t) (hu : u ∈ eps cd text pl t) : okT n D u := by
  obtain ⟨c, h1, rfl⟩ := List.mem_map.1 hu
  exact epsC_ok hc ht.1 ht.2 h1
theorem eps_x (hc : Cok cd n D bg) (ht : okT n D t) (hu : u ∈ eps cd text pl t) : u.x 0 = t.x 0 := by
  have sl := hc.sl t.pc ht.1
  obtain ⟨c, _, rfl⟩ := List.mem_map.1 hu
  show noteE cd pl t.pc t.x 0 = _
  unfold noteE
  split
  · have := sl (by assumption)
    unfold nu; rw [if_neg (by omega)]
  · rfl
theorem behind_ok (hc : Cok cd n D bg) (ht : okT n D t) : okT n D (behind cd t) := ⟨(hc.ok t.pc ht.1).2.1, (hc.ok t.pc ht.1).2.2.2.2⟩

/-- The same instruction, with the same turns. -/
def sameC (t u : Thr) : Prop := t.pc = u.pc ∧ t.tk = u.tk
theorem eps_same {v : Thr} (h : sameC t v) (hu : u ∈ eps cd text pl t) : ∃ q ∈ eps cd text pl v, sameC q u := by
  obtain ⟨c, h1, rfl⟩ := List.mem_map.1 hu
  rw [h.1, h.2] at h1
  exact ⟨_, List.mem_map.2 ⟨c, h1, rfl⟩, rfl, rfl⟩
theorem takes_same {v : Thr} (h : sameC t v) : takesB cd text pl t = takesB cd text pl v := by
  unfold takesB; rw [h.1]
theorem seen_same {v : Thr} (h : sameC t v) : seenAt n D pl t = seenAt n D pl v := by
  unfold seenAt; rw [h.1, h.2]
theorem same_of_seen {v : Thr} (ht : okT n D t) (hv : okT n D v) (h : seenAt n D pl t = seenAt n D pl v) : sameC t v := by
  rw [seenAt_eq, seenAt_eq] at h
  have h1 : t.pc * (D + 1) + t.tk = v.pc * (D + 1) + v.tk := by omega
  have e1 : t.pc = v.pc := by
    have a1 : (t.pc * (D + 1) + t.tk) / (D + 1) = t.pc := by
      rw [Nat.mul_comm, Nat.mul_add_div (by omega), Nat.div_eq_of_lt (by have := ht.2; omega)]; rfl
    have a2 : (v.pc * (D + 1) + v.tk) / (D + 1) = v.pc := by
      rw [Nat.mul_comm, Nat.mul_add_div (by omega), Nat.div_eq_of_lt (by have := hv.2; omega)]; rfl
    rw [← a1, ← a2, h1]
  refine ⟨e1, ?_⟩
  rw [e1] at h1
  omega
theorem Way.ok (hc : Cok cd n D bg) (h : Way cd text bg fr pl t) : okT n D t := by
  induction h with
  | start a _ _ => exact ⟨hc.bg, Nat.zero_le _⟩
  | eps _ hu ih => exact eps_ok hc ih hu
  | byte _ _ ih => exact behind_ok hc ih
theorem Way.le (h : Way cd text bg fr pl t) : pl ≤ text.size := by
  induction h with
  | start a _ h2 => exact h2
  | eps _ _ ih => exact ih
  | byte _ hb _ =>
    unfold takesB at hb
    simp at hb
    obtain ⟨h, _⟩ := hb.2
    omega
theorem Way.x_le (hc : Cok cd n D bg) (h : Way cd text bg fr pl t) : t.x 0 ≤ pl := by
  induction h with
  | start a _ _ => simp [nz]
  | eps h hu ih => rw [eps_x hc (h.ok hc) hu]; exact ih
  | byte _ _ ih => show _ ≤ ((_ + 1 : Nat) : Int); unfold behind; dsimp only; omega
theorem Way.x_ge (hc : Cok cd n D bg) (h : Way cd text bg fr pl t) : fr ≤ t.x 0 := by
  induction h with
  | start a h _ => simp [nz]; omega
  | eps h hu ih => rw [eps_x hc (h.ok hc) hu]; exact ih
  | byte _ _ ih => exact ih
end
end Go.Proofs.YtanpiomfnbiilaaDoor
