/- What a script does with lines: cycle by cycle. -/
import Derived.Test.YtonnimbcekhbgaaGreatDoorFBToFF
namespace Go.Proofs.YtonnimbcekhbgaaGreatDoor
open Go.RowKit

section
variable {w0 w w' : World} {mb sb db lo hi : Nat} {s s' : Mst} {σ : Sst}

/-- It looks at one command. -/
def Look (w0 : World) (mb sb db : Nat) (p p' : Pst) : Prop := ∀ w s, Mac w0 w mb sb db s → s.p = p → Calls Tryz.prog 63 #[.pointer (some ⟨mb, 0, none⟩)] w fun r w' => r = .returned (.tuple #[]) ∧ Goes w0 mb sb db w s w' p'
/-- It looks at commands, one behind the other. -/
inductive Looks (w0 : World) (mb sb db : Nat) : Pst → Pst → Prop
  | last {p p' : Pst} (h : Look w0 mb sb db p p') : Looks w0 mb sb db p p'
  | more {p q p' : Pst} (h : Look w0 mb sb db p q) (ho : q.over = false) (hw : q.wants = .nilFunc) (hr : Looks w0 mb sb db q p') : Looks w0 mb sb db p p'

def Sup (w0 : World) (mb sb db : Nat) (p p1 : Pst) : Prop := ∀ w s, Mac w0 w mb sb db s → s.p = p → Calls Tryz.prog 62 #[.pointer (some ⟨mb, 0, none⟩)] w fun r w' => r = .returned (.bool true) ∧ Goes w0 mb sb db w s w' p1

theorem RunP.cycle {p p1 p' p2 : Pst} {n : Nat} (ho : p.over = false) (hs : Sup w0 mb sb db p p1) (hl : Looks w0 mb sb db p1 p') (hr : RunP w0 mb sb db n p' p2) : ∃ m, RunP w0 mb sb db m p p2 := by
  induction hl generalizing p with
  | last h => exact ⟨_, .round ho hs h hr⟩
  | more h ho' hw _ ih =>
    obtain ⟨m, hm⟩ := ih ho' (fun w s hM hp => by
      have := supplied_on hM (by rw [show s.wants = _ from congrArg Pst.wants hp]; exact hw)
      rw [hp] at this
      exact this) hr
    exact ⟨_, .round ho hs h hm⟩

/-- What was written: so many files, no more than is counted. -/
structure Fbs (F : Nat) (p : Pst) : Prop where
  len : p.fb.length = F
  le : ∀ (i : Nat) (bs : List UInt8), p.fb[i]? = some bs → bs.length ≤ p.count
theorem Fbs.up {F : Nat} {p p' : Pst} (h : Fbs F p) (e : p'.fb = p.fb) (hc : p.count ≤ p'.count) : Fbs F p' := ⟨by rw [e]; exact h.len, fun i bs hb => Nat.le_trans (h.le i bs (by rw [← e]; exact hb)) hc⟩

/-- Between two cycles. -/
structure Btw (F : Nat) (p : Pst) : Prop where
  wants : p.wants = bwV
  over : p.over = false
  err : p.err = 0
  status : p.status = 0
  ahead : p.ahead = false
  br : p.br = []
  out : p.out.length ≤ p.count
  fb : Fbs F p

/-- A line is read. -/
theorem sup_line {F : Nat} {p : Pst} {L R : List UInt8} (hb : Btw F p) (hl : p.left = ba (L ++ 10 :: R)) (hn : (10 : UInt8) ∉ L) (h1000 : L.length ≤ 1000) (hR : R.length ≤ 90000) (hnum : p.number ≤ 1000000) : Sup w0 mb sb db p (p.line L R) := fun w s hM hp => by
  have e1 : s.left = ba (L ++ 10 :: R) := (congrArg Pst.left hp).trans hl
  have e2 : s.ahead = false := (congrArg Pst.ahead hp).trans hb.ahead
  have e3 : s.wants = bwV := (congrArg Pst.wants hp).trans hb.wants
  have e4 : s.number = p.number := congrArg Pst.number hp
  have := supplied_yes (L := L) (R := R) hM e3 (by omega) (next_line hM e1 hn h1000 hR (by cases he : s.ended <;> simp [e2]))
  rw [hp] at this
  exact this
theorem sup_last {F : Nat} {p : Pst} {L : List UInt8} (hb : Btw F p) (hl : p.left = ba L) (hn : (10 : UInt8) ∉ L) (h1000 : L.length ≤ 1000) (hL : L ≠ []) (he : p.ended = true) (hnum : p.number ≤ 1000000) : Sup w0 mb sb db p (p.line L []) := fun w s hM hp => by
  have e1 : s.left = ba L := (congrArg Pst.left hp).trans hl
  have e2 : s.ended = true := (congrArg Pst.ended hp).trans he
  have e3 : s.wants = bwV := (congrArg Pst.wants hp).trans hb.wants
  have e4 : s.number = p.number := congrArg Pst.number hp
  have := supplied_yes (L := L) (R := []) hM e3 (by omega) (next_last hM e1 hn h1000 hL e2)
  rw [hp] at this
  exact this
theorem run_dry {F : Nat} {p : Pst} {L : List UInt8} (hb : Btw F p) (hl : p.left = ba L) (hn : (10 : UInt8) ∉ L) (h1000 : L.length ≤ 1000) (he : p.ended = false ∨ L = []) : RunP w0 mb sb db 0 p p := .dry hb.over (fun w s hM hp => by
  have e1 : s.left = ba L := (congrArg Pst.left hp).trans hl
  have e2 : s.ahead = false := (congrArg Pst.ahead hp).trans hb.ahead
  have e3 : s.wants = bwV := (congrArg Pst.wants hp).trans hb.wants
  have e5 : s.ended = p.ended := congrArg Pst.ended hp
  have := supplied_no hM e3 (next_none hM e1 hn h1000 (by
    cases hq : s.ended with
    | false => exact .inr ⟨rfl, e2⟩
    | true =>
      refine .inl ⟨rfl, ?_⟩
      rcases he with q | q
      · rw [← e5, hq] at q; cases q
      · exact q))
  rw [hp] at this
  exact this)

/-- At the beginning of a cycle. -/
structure Beg (F : Nat) (p : Pst) (k : Nat) (L : List UInt8) : Prop where
  wants : p.wants = .nilFunc
  over : p.over = false
  err : p.err = 0
  status : p.status = 0
  ahead : p.ahead = false
  br : p.br = []
  out : p.out.length ≤ p.count
  pc : p.pc = 0
  steps : p.steps = 0
  number : p.number = k
  space : p.space = ba L
  fb : Fbs F p
theorem Btw.beg {F : Nat} {p : Pst} (h : Btw F p) (L R : List UInt8) : Beg F (p.line L R) (p.number + 1) L := ⟨rfl, h.over, h.err, h.status, h.ahead, h.br, h.out, rfl, rfl, rfl, rfl, h.fb.up rfl (Nat.le_refl _)⟩

/-- What a cycle comes to: so much is told, so much is counted. -/
structure Cyc (F : Nat) (p p' : Pst) (t : List UInt8) (c : Nat) : Prop where
  btw : Btw F p'
  left : p'.left = p.left
  ended : p'.ended = p.ended
  number : p'.number = p.number
  out : p'.out = p.out ++ t
  count : p'.count = p.count + c

/-- What a script does with a line: it tells so, counts so. -/
def Does (σ : Sst) (tl : Nat → List UInt8 → List UInt8) (ct : Nat → List UInt8 → Nat) : Prop :=
  ∀ (w0 : World) (mb sb db lo hi : Nat), Scr lo hi w0 sb 0 σ → ∀ p k L, Beg σ.ns.length p k L → k < 100 → L.length ≤ 1000 → p.count + ct k L ≤ 190000 → ∃ p', Looks w0 mb sb db p p' ∧ Cyc σ.ns.length p p' (tl k L) (ct k L)

/-- Lines, each with its newline. -/
def wh (ls : List (List UInt8)) : List UInt8 := ls.flatMap (fun l => l ++ [10])
/-- What is told of lines, from the number k on. -/
def told (tl : Nat → List UInt8 → List UInt8) : Nat → List (List UInt8) → List UInt8
  | _, [] => []
  | k, l :: ls => tl k l ++ told tl (k + 1) ls
def cnt (ct : Nat → List UInt8 → Nat) : Nat → List (List UInt8) → Nat
  | _, [] => 0
  | k, l :: ls => ct k l + cnt ct (k + 1) ls

theorem run_lines {tl : Nat → List UInt8 → List UInt8} {ct : Nat → List UInt8 → Nat} (hd : Does σ tl ct) (hs : Scr lo hi w0 sb 0 σ) {M : List UInt8} (hM : (10 : UInt8) ∉ M) (hM2 : M.length ≤ 1000) :
    ∀ (ls : List (List UInt8)), (∀ l ∈ ls, (10 : UInt8) ∉ l ∧ l.length ≤ 1000) → ∀ p, Btw σ.ns.length p → p.left = ba (wh ls ++ M) → (p.ended = false ∨ M = []) → p.number + ls.length < 100 → p.count + cnt ct (p.number + 1) ls ≤ 190000 → (wh ls ++ M).length ≤ 90000 →
      ∃ n p', RunP w0 mb sb db n p p' ∧ Btw σ.ns.length p' ∧ p'.left = ba M ∧ p'.ended = p.ended ∧ p'.number = p.number + ls.length ∧ p'.out = p.out ++ told tl (p.number + 1) ls ∧ p'.count = p.count + cnt ct (p.number + 1) ls
  | [], _, p, hb, hl, he, _, _, _ => ⟨0, p, run_dry hb (by rw [hl]; rfl) hM hM2 he, hb, by rw [hl]; rfl, rfl, by simp, by simp [told], by simp [cnt]⟩
  | l :: ls, hls, p, hb, hl, he, hn, hc, h9 => by
    have e : wh (l :: ls) ++ M = l ++ 10 :: (wh ls ++ M) := by simp [wh]
    rw [e] at hl h9
    rw [List.length_append, List.length_cons] at h9
    rw [List.length_cons] at hn
    have hl1 := hls l (by simp)
    have hbeg := hb.beg l (wh ls ++ M)
    obtain ⟨q, hlk, hcy⟩ := hd w0 mb sb db lo hi hs _ _ _ hbeg (by omega) hl1.2 (by show p.count + ct (p.number + 1) l ≤ _; simp only [cnt] at hc; omega)
    have qn : q.number = p.number + 1 := hcy.number
    have qc : q.count = p.count + ct (p.number + 1) l := hcy.count
    have qo : q.out = p.out ++ tl (p.number + 1) l := hcy.out
    have qe : q.ended = p.ended := hcy.ended
    obtain ⟨n, p', hr, b', l', e', n', o', c'⟩ := run_lines hd hs hM hM2 ls (fun l hl => hls l (by simp [hl])) q hcy.btw (hcy.left) (by rw [qe]; exact he) (by omega) (by rw [qc, qn]; simp only [cnt] at hc; omega) (by omega)
    obtain ⟨m, hm⟩ := RunP.cycle hb.over (sup_line hb hl hl1.1 hl1.2 (by omega) (by omega)) hlk hr
    refine ⟨m, p', hm, b', l', e'.trans qe, by rw [n', qn]; simp; omega, ?_, ?_⟩
    · rw [o', qo, qn, told, List.append_assoc]
    · rw [c', qc, qn, cnt]; omega
end
end Go.Proofs.YtonnimbcekhbgaaGreatDoor
