/- One text out of several: FG FH FI FJ. -/
import Derived.Test.YtonnimbcekhbgaaGreatDoorFEToFF

/- What a script does with lines: cycle by cycle. -/
namespace Go.Proofs.YtonnimbcekhbgaaGreatDoor
open Go.RowKit

section
variable {w0 w w' : World} {mb sb db lo hi : Nat} {s s' : Mst} {σ : Sst}

/-- It looks at one command. -/
def Look (w0 : World) (mb sb db : Nat) (p p' : Pst) : Prop := ∀ w s, Mac w0 w mb sb db s → s.p = p → Calls Tryz.prog 63 #[.pointer (some ⟨mb, 0, none⟩)] w fun r w' => r = .returned (.tuple #[]) ∧ Goes w0 mb sb db w s w' p'
/-- It looks at commands, one behind the other. -/
inductive Looks (w0 : World) (mb sb db : Nat) : Pst → Pst → Prop
  | last {p p' : Pst} (h : Look w0 mb sb db p p') : Looks w0 mb sb db p p'
  | more {p q p' : Pst} (h : Look w0 mb sb db p q) (ho : q.over = false) (hw : q.wants = .nilFunc) (hr : Looks w0 mb sb db q p') : Looks w0 mb sb db p p'

def Sup (w0 : World) (mb sb db : Nat) (p p1 : Pst) : Prop := ∀ w s, Mac w0 w mb sb db s → s.p = p → Calls Tryz.prog 62 #[.pointer (some ⟨mb, 0, none⟩)] w fun r w' => r = .returned (.bool true) ∧ Goes w0 mb sb db w s w' p1

theorem RunP.cycle {p p1 p' p2 : Pst} {n : Nat} (ho : p.over = false) (hs : Sup w0 mb sb db p p1) (hl : Looks w0 mb sb db p1 p') (hr : RunP w0 mb sb db n p' p2) : ∃ m, RunP w0 mb sb db m p p2 := by
  induction hl generalizing p with
  | last h => exact ⟨_, .round ho hs h hr⟩
  | more h ho' hw _ ih =>
    obtain ⟨m, hm⟩ := ih ho' (fun w s hM hp => by
      have := supplied_on hM (by rw [show s.wants = _ from congrArg Pst.wants hp]; exact hw)
      rw [hp] at this
      exact this) hr
    exact ⟨_, .round ho hs h hm⟩

/-- What was written: so many files, no more than is counted. -/
structure Fbs (F : Nat) (p : Pst) : Prop where
  len : p.fb.length = F
  le : ∀ (i : Nat) (bs : List UInt8), p.fb[i]? = some bs → bs.length ≤ p.count
theorem Fbs.up {F : Nat} {p p' : Pst} (h : Fbs F p) (e : p'.fb = p.fb) (hc : p.count ≤ p'.count) : Fbs F p' := ⟨by rw [e]; exact h.len, fun i bs hb => Nat.le_trans (h.le i bs (by rw [← e]; exact hb)) hc⟩

/-- Between two cycles. -/
structure Btw (F : Nat) (p : Pst) : Prop where
  wants : p.wants = bwV
  over : p.over = false
  err : p.err = 0
  status : p.status = 0
  ahead : p.ahead = false
  br : p.br = []
  out : p.out.length ≤ p.count
  fb : Fbs F p

/-- A line is read. -/
theorem sup_line {F : Nat} {p : Pst} {L R : List UInt8} (hb : Btw F p) (hl : p.left = ba (L ++ 10 :: R)) (hn : (10 : UInt8) ∉ L) (h1000 : L.length ≤ 1000) (hR : R.length ≤ 90000) (hnum : p.number ≤ 1000000) : Sup w0 mb sb db p (p.line L R) := fun w s hM hp => by
  have e1 : s.left = ba (L ++ 10 :: R) := (congrArg Pst.left hp).trans hl
  have e2 : s.ahead = false := (congrArg Pst.ahead hp).trans hb.ahead
  have e3 : s.wants = bwV := (congrArg Pst.wants hp).trans hb.wants
  have e4 : s.number = p.number := congrArg Pst.number hp
  have := supplied_yes (L := L) (R := R) hM e3 (by omega) (next_line hM e1 hn h1000 hR (by cases he : s.ended <;> simp [e2]))
  rw [hp] at this
  exact this
theorem sup_last {F : Nat} {p : Pst} {L : List UInt8} (hb : Btw F p) (hl : p.left = ba L) (hn : (10 : UInt8) ∉ L) (h1000 : L.length ≤ 1000) (hL : L ≠ []) (he : p.ended = true) (hnum : p.number ≤ 1000000) : Sup w0 mb sb db p (p.line L []) := fun w s hM hp => by
  have e1 : s.left = ba L := (congrArg Pst.left hp).trans hl
  have e2 : s.ended = true := (congrArg Pst.ended hp).trans he
  have e3 : s.wants = bwV := (congrArg Pst.wants hp).trans hb.wants
  have e4 : s.number = p.number := congrArg Pst.number hp
  have := supplied_yes (L := L) (R := []) hM e3 (by omega) (next_last hM e1 hn h1000 hL e2)
  rw [hp] at this
  exact this
theorem run_dry {F : Nat} {p : Pst} {L : List UInt8} (hb : Btw F p) (hl : p.left = ba L) (hn : (10 : UInt8) ∉ L) (h1000 : L.length ≤ 1000) (he : p.ended = false ∨ L = []) : RunP w0 mb sb db 0 p p := .dry hb.over (fun w s hM hp => by
  have e1 : s.left = ba L := (congrArg Pst.left hp).trans hl
  have e2 : s.ahead = false := (congrArg Pst.ahead hp).trans hb.ahead
  have e3 : s.wants = bwV := (congrArg Pst.wants hp).trans hb.wants
  have e5 : s.ended = p.ended := congrArg Pst.ended hp
  have := supplied_no hM e3 (next_none hM e1 hn h1000 (by
    cases hq : s.ended with
    | false => exact .inr ⟨rfl, e2⟩
    | true =>
      refine .inl ⟨rfl, ?_⟩
      rcases he with q | q
      · rw [← e5, hq] at q; cases q
      · exact q))
  rw [hp] at this
  exact this)

/-- At the beginning of a cycle. -/
structure Beg (F : Nat) (p : Pst) (k : Nat) (L : List UInt8) : Prop where
  wants : p.wants = .nilFunc
  over : p.over = false
  err : p.err = 0
  status : p.status = 0
  ahead : p.ahead = false
  br : p.br = []
  out : p.out.length ≤ p.count
  pc : p.pc = 0
  steps : p.steps = 0
  number : p.number = k
  space : p.space = ba L
  fb : Fbs F p
theorem Btw.beg {F : Nat} {p : Pst} (h : Btw F p) (L R : List UInt8) : Beg F (p.line L R) (p.number + 1) L := ⟨rfl, h.over, h.err, h.status, h.ahead, h.br, h.out, rfl, rfl, rfl, rfl, h.fb.up rfl (Nat.le_refl _)⟩

/-- What a cycle comes to: so much is told, so much is counted. -/
structure Cyc (F : Nat) (p p' : Pst) (t : List UInt8) (c : Nat) : Prop where
  btw : Btw F p'
  left : p'.left = p.left
  ended : p'.ended = p.ended
  number : p'.number = p.number
  out : p'.out = p.out ++ t
  count : p'.count = p.count + c

/-- What a script does with a line: it tells so, counts so. -/
def Does (σ : Sst) (tl : Nat → List UInt8 → List UInt8) (ct : Nat → List UInt8 → Nat) : Prop :=
  ∀ (w0 : World) (mb sb db lo hi : Nat), Scr lo hi w0 sb 0 σ → ∀ p k L, Beg σ.ns.length p k L → k < 100 → L.length ≤ 1000 → p.count + ct k L ≤ 190000 → ∃ p', Looks w0 mb sb db p p' ∧ Cyc σ.ns.length p p' (tl k L) (ct k L)

/-- Lines, each with its newline. -/
def wh (ls : List (List UInt8)) : List UInt8 := ls.flatMap (fun l => l ++ [10])
/-- What is told of lines, from the number k on. -/
def told (tl : Nat → List UInt8 → List UInt8) : Nat → List (List UInt8) → List UInt8
  | _, [] => []
  | k, l :: ls => tl k l ++ told tl (k + 1) ls
def cnt (ct : Nat → List UInt8 → Nat) : Nat → List (List UInt8) → Nat
  | _, [] => 0
  | k, l :: ls => ct k l + cnt ct (k + 1) ls

theorem run_lines {tl : Nat → List UInt8 → List UInt8} {ct : Nat → List UInt8 → Nat} (hd : Does σ tl ct) (hs : Scr lo hi w0 sb 0 σ) {M : List UInt8} (hM : (10 : UInt8) ∉ M) (hM2 : M.length ≤ 1000) :
    ∀ (ls : List (List UInt8)), (∀ l ∈ ls, (10 : UInt8) ∉ l ∧ l.length ≤ 1000) → ∀ p, Btw σ.ns.length p → p.left = ba (wh ls ++ M) → (p.ended = false ∨ M = []) → p.number + ls.length < 100 → p.count + cnt ct (p.number + 1) ls ≤ 190000 → (wh ls ++ M).length ≤ 90000 →
      ∃ n p', RunP w0 mb sb db n p p' ∧ Btw σ.ns.length p' ∧ p'.left = ba M ∧ p'.ended = p.ended ∧ p'.number = p.number + ls.length ∧ p'.out = p.out ++ told tl (p.number + 1) ls ∧ p'.count = p.count + cnt ct (p.number + 1) ls
  | [], _, p, hb, hl, he, _, _, _ => ⟨0, p, run_dry hb (by rw [hl]; rfl) hM hM2 he, hb, by rw [hl]; rfl, rfl, by simp, by simp [told], by simp [cnt]⟩
  | l :: ls, hls, p, hb, hl, he, hn, hc, h9 => by
    have e : wh (l :: ls) ++ M = l ++ 10 :: (wh ls ++ M) := by simp [wh]
    rw [e] at hl h9
    rw [List.length_append, List.length_cons] at h9
    rw [List.length_cons] at hn
    have hl1 := hls l (by simp)
    have hbeg := hb.beg l (wh ls ++ M)
    obtain ⟨q, hlk, hcy⟩ := hd w0 mb sb db lo hi hs _ _ _ hbeg (by omega) hl1.2 (by show p.count + ct (p.number + 1) l ≤ _; simp only [cnt] at hc; omega)
    have qn : q.number = p.number + 1 := hcy.number
    have qc : q.count = p.count + ct (p.number + 1) l := hcy.count
    have qo : q.out = p.out ++ tl (p.number + 1) l := hcy.out
    have qe : q.ended = p.ended := hcy.ended
    obtain ⟨n, p', hr, b', l', e', n', o', c'⟩ := run_lines hd hs hM hM2 ls (fun l hl => hls l (by simp [hl])) q hcy.btw (hcy.left) (by rw [qe]; exact he) (by omega) (by rw [qc, qn]; simp only [cnt] at hc; omega) (by omega)
    obtain ⟨m, hm⟩ := RunP.cycle hb.over (sup_line hb hl hl1.1 hl1.2 (by omega) (by omega)) hlk hr
    refine ⟨m, p', hm, b', l', e'.trans qe, by rw [n', qn]; simp; omega, ?_, ?_⟩
    · rw [o', qo, qn, told, List.append_assoc]
    · rw [c', qc, qn, cnt]; omega
end
end Go.Proofs.YtonnimbcekhbgaaGreatDoor

/- What some scripts do with lines. -/
namespace Go.Proofs.YtonnimbcekhbgaaGreatDoor
open Go.RowKit

section
variable {w0 w w' : World} {mb sb db lo hi : Nat} {s s' : Mst} {σ : Sst}

theorem fbs0 (ah : Bool) (nf nr : Nat) (l : ByteArray) : Fbs nf ({ pst0 ah nf nr with left := l } : Pst) := ⟨by simp [pst0, mst0, Mst.p], fun i bs h => by
  simp only [pst0, mst0, Mst.p, List.getElem?_replicate] at h
  split at h
  · injection h with h; subst h; exact Nat.zero_le _
  · cases h⟩
theorem wh_len (ls : List (List UInt8)) : ∀ l ∈ ls, l.length ≤ (wh ls).length := fun l hl => by
  induction ls with
  | nil => cases hl
  | cons a ls ih =>
    rw [show wh (a :: ls) = (a ++ [10]) ++ wh ls by simp [wh], List.length_append, List.length_append]
    rcases List.mem_cons.1 hl with q | q
    · subst q; omega
    · have := ih q; omega

/-- Lines with their newlines, fed at once. -/
theorem acts_whole {tl : Nat → List UInt8 → List UInt8} {ct : Nat → List UInt8 → Nat} {ls : List (List UInt8)} (hd : Does σ tl ct) (hls : ∀ l ∈ ls, (10 : UInt8) ∉ l ∧ l.length ≤ 1000) (hn : ls.length < 99) (hc : cnt ct 1 ls ≤ 190000) (h9 : (wh ls).length ≤ 90000) : Acts σ false (ba (wh ls)) (told tl 1 ls) 0 := by
  intro w0 mb sb db lo hi hs
  obtain ⟨n, p', hr, b', l', e', _, o', _⟩ := run_lines (mb := mb) (db := db) hd hs (M := []) (by simp) (by simp) ls hls ({ pst0 false σ.ns.length σ.ranges with left := ba (wh ls) } : Pst) ⟨rfl, rfl, rfl, rfl, rfl, rfl, Nat.le_refl _, fbs0 _ _ _ _⟩ (by simp) (.inl rfl) (by show 0 + ls.length < 100; omega) (by show 0 + cnt ct (0 + 1) ls ≤ _; simpa using hc) (by simpa using h9)
  refine ⟨n, p', hr, by rw [l', ba_size]; simp, b'.err, .inr ⟨b'.over, 0, _, run_dry (p := { p'.replied with ended := true }) (L := []) ⟨b'.wants, b'.over, b'.err, b'.status, b'.ahead, b'.br, Nat.zero_le _, b'.fb.up rfl (Nat.le_refl _)⟩ ?_ (by simp) (by simp) (.inr rfl), ?_, b'.err, b'.status, ?_⟩⟩
  · show (if p'.over then (⟨#[]⟩ : ByteArray) else p'.left) = _
    rw [b'.over, l']; rfl
  · show (if p'.over then (⟨#[]⟩ : ByteArray) else p'.left).size ≤ _
    rw [b'.over, l']
    show (ba []).size ≤ _
    rw [ba_size]; simp
  · rw [o']
    show ([] ++ told tl (0 + 1) ls) ++ [] = _
    simp

/-- .. and without the last newline. -/
theorem acts_cut {tl : Nat → List UInt8 → List UInt8} {ct : Nat → List UInt8 → Nat} {ls : List (List UInt8)} {M : List UInt8} (hd : Does σ tl ct) (hls : ∀ l ∈ ls ++ [M], (10 : UInt8) ∉ l ∧ l.length ≤ 1000) (hM : M ≠ []) (hn : ls.length < 98) (hc : cnt ct 1 ls + ct (ls.length + 1) M ≤ 190000) (h9 : (wh ls ++ M).length ≤ 90000) :
    Acts σ false (ba (wh ls ++ M)) (told tl 1 ls ++ tl (ls.length + 1) M) 0 := by
  intro w0 mb sb db lo hi hs
  have hm := hls M (by simp)
  obtain ⟨n, p', hr, b', l', e', n', o', c'⟩ := run_lines (mb := mb) (db := db) hd hs (M := M) hm.1 hm.2 ls (fun l hl => hls l (by simp [hl])) ({ pst0 false σ.ns.length σ.ranges with left := ba (wh ls ++ M) } : Pst) ⟨rfl, rfl, rfl, rfl, rfl, rfl, Nat.le_refl _, fbs0 _ _ _ _⟩ rfl (.inl rfl) (by show 0 + ls.length < 100; omega) (by show 0 + cnt ct (0 + 1) ls ≤ _; rw [Nat.zero_add, Nat.zero_add]; omega) h9
  have n0 : p'.number = ls.length := by rw [n']; show 0 + ls.length = _; omega
  have c0 : p'.count = cnt ct 1 ls := by rw [c']; show 0 + cnt ct (0 + 1) ls = _; simp
  obtain ⟨q, hq⟩ : ∃ q : Pst, q = { p'.replied with ended := true } := ⟨_, rfl⟩
  have bq : Btw σ.ns.length q := by rw [hq]; exact ⟨b'.wants, b'.over, b'.err, b'.status, b'.ahead, b'.br, Nat.zero_le _, b'.fb.up rfl (Nat.le_refl _)⟩
  have lq : q.left = ba M := by
    rw [hq]
    show (if p'.over then (⟨#[]⟩ : ByteArray) else p'.left) = _
    rw [b'.over, l']; rfl
  have nq : q.number = ls.length := by rw [hq]; exact n0
  have cq : q.count = cnt ct 1 ls := by rw [hq]; exact c0
  have oq : q.out = [] := by rw [hq]; rfl
  have eq : q.ended = true := by rw [hq]
  have hbeg := bq.beg M []
  obtain ⟨p2, hlk, hcy⟩ := hd w0 mb sb db lo hi hs _ _ _ hbeg (by omega) hm.2 (by show q.count + ct (q.number + 1) M ≤ _; rw [cq, nq]; exact hc)
  have l2 : p2.left = ba [] := hcy.left
  obtain ⟨m, hm2⟩ := RunP.cycle bq.over (sup_last bq lq hm.1 hm.2 hM eq (by omega)) hlk (run_dry hcy.btw l2 (by simp) (by simp) (.inr rfl))
  refine ⟨n, p', hr, by rw [l', ba_size]; have := hm.2; omega, b'.err, .inr ⟨b'.over, m, p2, by rw [← hq]; exact hm2, by rw [l2, ba_size]; simp, hcy.btw.err, hcy.btw.status, ?_⟩⟩
  have o2 : p2.out = q.out ++ tl (q.number + 1) M := hcy.out
  rw [o', o2, oq, nq]
  show ([] ++ told tl (0 + 1) ls) ++ ([] ++ tl (ls.length + 1) M) = _
  simp

theorem room_of {p : Pst} {t : ByteArray} (hp : s.p = p) (h1 : p.count + t.size + 1 ≤ 200000) (h2 : p.out.length ≤ p.count) (h3 : p.br = []) : Room s t :=
  ⟨by rw [show s.count = p.count from congrArg Pst.count hp]; exact h1, by rw [show s.r.out = p.out from congrArg Pst.out hp, show s.count = p.count from congrArg Pst.count hp]; exact h2, (congrArg Pst.br hp).trans h3⟩

theorem look_ends {p : Pst} (hs : Scr lo hi w0 sb 0 σ) (hpc : p.pc = σ.cs.length) (h1 : p.count + p.space.size + 1 ≤ 200000) (h2 : p.out.length ≤ p.count) (h3 : p.br = []) : Look w0 mb sb db p (p.endCycle σ.quiet) := fun w s hM hp => by
  have e : s.space = p.space := congrArg Pst.space hp
  have := look_end hM hs (by rw [e]; exact room_of hp h1 h2 h3) (by rw [show s.pc = p.pc from congrArg Pst.pc hp]; exact hpc)
  rw [hp] at this
  exact this

/-- A command without an address is done. -/
theorem look_does {p p3 : Pst} {c : List Value} {x i f ca : Nat} {A : Option Addr} (hs : Scr lo hi w0 sb 0 σ) (hc : σ.cs[p.pc]? = some c) (hx : c[3]? = some (.int .u8 x)) (hnt : c[2]? = some (.bool false)) (h0 : c[0]? = some (.slice A 0 ca))
    (ht : Instr.findNow (.int .u8) (.int .u8 x) (tabE 0 deedsL) 0 = some (some (i, .func (.func f) #[] #[]))) (hst : p.steps < 2000) (hpc : p.pc < 2000) (hen : Enters f)
    (hD : ∀ w2 s2 g, Mac w0 w2 mb sb db s2 → s2.p = ({ p with pc := p.pc + 1, steps := p.steps + 1 } : Pst) → Calls Tryz.prog f #[.pointer (some ⟨mb, 0, none⟩), .pointer (some ⟨g, p.pc * 23, none⟩)] w2 fun r w' => r = .returned (.tuple #[]) ∧ Goes w0 mb sb db w2 s2 w' p3) : Look w0 mb sb db p p3 := fun w s hM hp => by
  have e1 : s.pc = p.pc := congrArg Pst.pc hp
  have e2 : s.steps = p.steps := congrArg Pst.steps hp
  obtain ⟨g, cap, hv, _⟩ := hs.cmd hc
  refine look_do (b := true) (p2 := { p with pc := p.pc + 1, steps := p.steps + 1 }) hM hs (by rw [e1]; exact hc) hv hx hnt ht (by omega) (by omega) hen (fun w1 s1 m1 q1 => ?_) rfl (fun w2 s2 m2 q2 => by rw [e1]; exact hD w2 s2 g m2 q2)
  have q1' : s1.p = ({ p with pc := p.pc + 1, steps := p.steps + 1 } : Pst) := by rw [q1, hp, e1, e2]
  rw [← q1', e1]
  obtain ⟨g', cap', hv', hcell⟩ := (hs.keep m1.r.kp (fun _ e => by cases e)).cmd hc
  obtain rfl : g' = g := by rw [hv] at hv'; injection hv' with e _ _; injection e with e; injection e with e; exact e.symm
  exact addressed_none m1 (hcell 0 _ h0)
end
end Go.Proofs.YtonnimbcekhbgaaGreatDoor

/- What some scripts do with lines: nothing, p, =, d. -/
namespace Go.Proofs.YtonnimbcekhbgaaGreatDoor
open Go.RowKit

section
variable {w0 w w' : World} {mb sb db lo hi : Nat} {s s' : Mst} {σ : Sst}

/-- A command without an address. -/
structure Plain (c : List Value) (x : Nat) : Prop where
  c3 : c[3]? = some (.int .u8 x)
  c2 : c[2]? = some (.bool false)
  c0 : ∃ A ca, c[0]? = some (.slice A 0 ca)

def Pst.on (p : Pst) : Pst := { p with pc := p.pc + 1, steps := p.steps + 1 }

theorem enters_p : Enters 53 := by intro p q w; simp [go_sem]
theorem enters_n : Enters 56 := by intro p q w; simp [go_sem]
theorem enters_d : Enters 44 := by intro p q w; simp [go_sem]
theorem enters_q : Enters 57 := by intro p q w; simp [go_sem]
theorem deed_p : Instr.findNow (.int .u8) (.int .u8 ((112 : Nat) : Int)) (tabE 0 deedsL) 0 = some (some (17, .func (.func 53) #[] #[])) := by kernel_rfl
theorem deed_n : Instr.findNow (.int .u8) (.int .u8 ((61 : Nat) : Int)) (tabE 0 deedsL) 0 = some (some (20, .func (.func 56) #[] #[])) := by kernel_rfl
theorem deed_d : Instr.findNow (.int .u8) (.int .u8 ((100 : Nat) : Int)) (tabE 0 deedsL) 0 = some (some (8, .func (.func 44) #[] #[])) := by kernel_rfl
theorem deed_q : Instr.findNow (.int .u8) (.int .u8 ((113 : Nat) : Int)) (tabE 0 deedsL) 0 = some (some (21, .func (.func 57) #[] #[])) := by kernel_rfl

theorem look_print {p : Pst} {c : List Value} (hs : Scr lo hi w0 sb 0 σ) (hc : σ.cs[p.pc]? = some c) (hP : Plain c 112) (hst : p.steps < 2000) (hpc : p.pc < 2000) (h1 : p.count + p.space.size + 1 ≤ 200000) (h2 : p.out.length ≤ p.count) (h3 : p.br = []) : Look w0 mb sb db p (p.on.tell p.space) := by
  obtain ⟨A, ca, h0⟩ := hP.c0
  refine look_does hs hc hP.c3 hP.c2 h0 deed_p hst hpc enters_p (fun w2 s2 g m2 e2 => ?_)
  have es : s2.space = p.space := congrArg Pst.space e2
  have := print_v (cp := .pointer (some ⟨g, p.pc * 23, none⟩)) m2 (room_of e2 (by rw [es]; exact h1) h2 h3)
  rw [e2, es] at this
  exact this
theorem look_number {p : Pst} {c : List Value} (hs : Scr lo hi w0 sb 0 σ) (hc : σ.cs[p.pc]? = some c) (hP : Plain c 61) (hst : p.steps < 2000) (hpc : p.pc < 2000) (hn : p.number < 100) (h1 : p.count + (Lib.decDigits p.number).length + 1 ≤ 200000) (h2 : p.out.length ≤ p.count) (h3 : p.br = []) : Look w0 mb sb db p (p.on.tell ⟨(Lib.decDigits p.number).toArray⟩) := by
  obtain ⟨A, ca, h0⟩ := hP.c0
  refine look_does hs hc hP.c3 hP.c2 h0 deed_n hst hpc enters_n (fun w2 s2 g m2 e2 => ?_)
  have es : s2.number = p.number := congrArg Pst.number e2
  have := tellNumber_v (cp := .pointer (some ⟨g, p.pc * 23, none⟩)) m2 (by rw [es]; exact hn) (room_of e2 (by rw [es]; exact h1) h2 h3)
  rw [e2, es] at this
  exact this
theorem look_drop {p : Pst} {c : List Value} (hs : Scr lo hi w0 sb 0 σ) (hc : σ.cs[p.pc]? = some c) (hP : Plain c 100) (hst : p.steps < 2000) (hpc : p.pc < 2000) (h3 : p.br = []) : Look w0 mb sb db p p.on.dropCycle := by
  obtain ⟨A, ca, h0⟩ := hP.c0
  refine look_does hs hc hP.c3 hP.c2 h0 deed_d hst hpc enters_d (fun w2 s2 g m2 e2 => ?_)
  have := drop_v (cp := .pointer (some ⟨g, p.pc * 23, none⟩)) m2 ((congrArg Pst.br e2).trans h3)
  rw [e2] at this
  exact this

theorem does_none (hc : σ.cs = []) : Does σ (fun _ L => if σ.quiet then [] else L ++ [10]) (fun _ L => if σ.quiet then 0 else L.length + 1) := by
  intro w0 mb sb db lo hi hs p k L hb hk hL hn
  have hz : p.space.size = L.length := by rw [hb.space, ba_size]
  have hd : p.space.data.toList = L := by rw [hb.space]; simp [ba]
  have hct : p.count ≤ 190000 := Nat.le_trans (Nat.le_add_right _ _) hn
  have o := hb.out
  refine ⟨p.endCycle σ.quiet, .last (look_ends hs (by rw [hb.pc, hc]; rfl) (by omega) hb.out hb.br), ?_⟩
  cases hq : σ.quiet
  · refine ⟨⟨rfl, hb.over, hb.err, hb.status, hb.ahead, hb.br, ?_, hb.fb.up rfl (by show p.count ≤ p.count + p.space.size + 1; omega)⟩, rfl, rfl, rfl, ?_, ?_⟩
    · show (p.out ++ p.space.data.toList ++ [10]).length ≤ p.count + p.space.size + 1
      rw [hd, hz]; simp; omega
    · show p.out ++ p.space.data.toList ++ [10] = _
      rw [hd]; simp
    · show p.count + p.space.size + 1 = _
      rw [hz]; simp; omega
  · exact ⟨⟨rfl, hb.over, hb.err, hb.status, hb.ahead, hb.br, o, hb.fb.up rfl (Nat.le_refl _)⟩, rfl, rfl, rfl, by show p.out = _; simp, by show p.count = _; simp⟩

theorem does_print {c : List Value} (hc : σ.cs = [c]) (hq : σ.quiet = false) (hP : Plain c 112) : Does σ (fun _ L => L ++ [10] ++ (L ++ [10])) (fun _ L => 2 * (L.length + 1)) := by
  intro w0 mb sb db lo hi hs p k L hb hk hL hn
  have hz : p.space.size = L.length := by rw [hb.space, ba_size]
  have hd : p.space.data.toList = L := by rw [hb.space]; simp [ba]
  have o := hb.out
  have o2 : (p.out ++ p.space.data.toList ++ [10]).length ≤ p.count + p.space.size + 1 := by rw [hd, hz]; simp; omega
  refine ⟨(p.on.tell p.space).endCycle σ.quiet, .more (look_print hs (by rw [hb.pc, hc]; rfl) hP (by rw [hb.steps]; omega) (by rw [hb.pc]; omega) (by omega) hb.out hb.br) hb.over hb.wants (.last (look_ends hs (by show p.pc + 1 = _; rw [hb.pc, hc]; rfl) (by show p.count + p.space.size + 1 + p.space.size + 1 ≤ _; omega) o2 hb.br)), ?_⟩
  rw [hq]
  refine ⟨⟨rfl, hb.over, hb.err, hb.status, hb.ahead, hb.br, ?_, hb.fb.up rfl (by show p.count ≤ p.count + p.space.size + 1 + p.space.size + 1; omega)⟩, rfl, rfl, rfl, ?_, ?_⟩
  · show (p.out ++ p.space.data.toList ++ [10] ++ p.space.data.toList ++ [10]).length ≤ p.count + p.space.size + 1 + p.space.size + 1
    rw [hd, hz]; simp; omega
  · show p.out ++ p.space.data.toList ++ [10] ++ p.space.data.toList ++ [10] = _
    rw [hd]; simp
  · show p.count + p.space.size + 1 + p.space.size + 1 = p.count + 2 * (L.length + 1)
    rw [hz]; omega

theorem does_number {c : List Value} (hc : σ.cs = [c]) (hq : σ.quiet = false) (hP : Plain c 61) : Does σ (fun k L => Lib.decDigits k ++ [10] ++ (L ++ [10])) (fun k L => (Lib.decDigits k).length + 1 + (L.length + 1)) := by
  intro w0 mb sb db lo hi hs p k L hb hk hL hn
  have hz : p.space.size = L.length := by rw [hb.space, ba_size]
  have hd : p.space.data.toList = L := by rw [hb.space]; simp [ba]
  have hnum := hb.number
  have o := hb.out
  have o2 : (p.out ++ Lib.decDigits p.number ++ [10]).length ≤ p.count + (Lib.decDigits p.number).length + 1 := by simp; omega
  have hn' : p.count + ((Lib.decDigits p.number).length + 1 + (L.length + 1)) ≤ 190000 := by rw [hnum]; exact hn
  refine ⟨(p.on.tell ⟨(Lib.decDigits p.number).toArray⟩).endCycle σ.quiet, .more (look_number hs (by rw [hb.pc, hc]; rfl) hP (by rw [hb.steps]; omega) (by rw [hb.pc]; omega) (by omega) (by omega) hb.out hb.br) hb.over hb.wants (.last (look_ends hs (by show p.pc + 1 = _; rw [hb.pc, hc]; rfl) (by show p.count + (Lib.decDigits p.number).toArray.size + 1 + p.space.size + 1 ≤ _; simp; omega) (by show (p.out ++ (Lib.decDigits p.number).toArray.toList ++ [10]).length ≤ p.count + (Lib.decDigits p.number).toArray.size + 1; simp; omega) hb.br)), ?_⟩
  rw [hq]
  refine ⟨⟨rfl, hb.over, hb.err, hb.status, hb.ahead, hb.br, ?_, hb.fb.up rfl (by show p.count ≤ p.count + (Lib.decDigits p.number).toArray.size + 1 + p.space.size + 1; omega)⟩, rfl, rfl, rfl, ?_, ?_⟩
  · show (p.out ++ (Lib.decDigits p.number).toArray.toList ++ [10] ++ p.space.data.toList ++ [10]).length ≤ p.count + (Lib.decDigits p.number).toArray.size + 1 + p.space.size + 1
    rw [hd, hz]; simp; omega
  · show p.out ++ (Lib.decDigits p.number).toArray.toList ++ [10] ++ p.space.data.toList ++ [10] = _
    rw [hd, hnum]; simp
  · show p.count + (Lib.decDigits p.number).toArray.size + 1 + p.space.size + 1 = _
    rw [hz, hnum]; simp; omega

theorem does_drop {c : List Value} (hc : σ.cs = [c]) (hP : Plain c 100) : Does σ (fun _ _ => []) (fun _ _ => 0) := by
  intro w0 mb sb db lo hi hs p k L hb hk hL hn
  refine ⟨p.on.dropCycle, .last (look_drop hs (by rw [hb.pc, hc]; rfl) hP (by rw [hb.steps]; omega) (by rw [hb.pc]; omega) hb.br), ⟨⟨rfl, hb.over, hb.err, hb.status, hb.ahead, hb.br, hb.out, hb.fb.up rfl (Nat.le_refl _)⟩, rfl, rfl, rfl, by show p.out = _; simp, by show p.count = _; simp⟩⟩
end
end Go.Proofs.YtonnimbcekhbgaaGreatDoor

/- What q with a number does. -/
namespace Go.Proofs.YtonnimbcekhbgaaGreatDoor
open Go.RowKit

section
variable {w0 w w' : World} {mb sb db lo hi : Nat} {s s' : Mst} {σ : Sst}

/-- A command with a number for its address. -/
structure AtNum (σ : Sst) (c : List Value) (x n : Nat) : Prop where
  c3 : c[3]? = some (.int .u8 x)
  c2 : c[2]? = some (.bool false)
  c0 : ∃ p ca cells, c[0]? = some (.slice (some ⟨p, 0, none⟩) 1 ca) ∧ (p, Obj.cells cells 120 (0, 0)) ∈ σ.fs ∧ cells[0]? = some (.int .i64 0) ∧ cells[1]? = some (.int .i64 n)

theorem AtNum.of {c : List Value} {x n : Nat} {v : Value} (h3 : c[3]? = some (.int .u8 x)) (h2 : c[2]? = some (.bool false)) (h0 : c[0]? = some v) (hv : AdrsV σ.fs v [.num n]) : AtNum σ c x n := by
  refine ⟨h3, h2, ?_⟩
  rcases hv with ⟨q, _⟩ | ⟨p, ca, cells, rfl, hm, hc⟩
  · cases q
  · obtain ⟨va, rfl, hc⟩ := hc 0 _ rfl
    exact ⟨p, ca, cells, h0, hm, hc 0 _ rfl, hc 1 _ rfl⟩

theorem cells_at {p i : Nat} {cells : Array Value} {t : TypeId} {v : Value} (h : w.heap[p]? = some (Obj.cells cells t (0, 0))) (hv : cells[i]? = some v) : w.cell? ⟨p, i, none⟩ = some v := by
  simp [World.cell?, h, hv]

theorem look_at {p p3 : Pst} {c : List Value} {x n i f : Nat} (hs : Scr lo hi w0 sb 0 σ) (hc : σ.cs[p.pc]? = some c) (hA : AtNum σ c x n) (hst : p.steps < 2000) (hpc : p.pc < 2000) (hen : Enters f)
    (ht : Instr.findNow (.int .u8) (.int .u8 x) (tabE 0 deedsL) 0 = some (some (i, .func (.func f) #[] #[]))) (hn : p.number = n)
    (hD : ∀ w2 s2 g, Mac w0 w2 mb sb db s2 → s2.p = p.on → (∀ j u, c[j]? = some u → w2.cell? ⟨g, p.pc * 23 + j, none⟩ = some u) → Calls Tryz.prog f #[.pointer (some ⟨mb, 0, none⟩), .pointer (some ⟨g, p.pc * 23, none⟩)] w2 fun r w' => r = .returned (.tuple #[]) ∧ Goes w0 mb sb db w2 s2 w' p3) : Look w0 mb sb db p p3 := fun w s hM hp => by
  have e1 : s.pc = p.pc := congrArg Pst.pc hp
  have e2 : s.steps = p.steps := congrArg Pst.steps hp
  obtain ⟨ap, ca, cells, h0, hm, q0, q1⟩ := hA.c0
  obtain ⟨g, cap, hv, _⟩ := hs.cmd hc
  have key : ∀ wx, Kp [] w0 wx → ∀ j u, c[j]? = some u → wx.cell? ⟨g, p.pc * 23 + j, none⟩ = some u := fun wx kx => by
    obtain ⟨g', cap', hv', hcell⟩ := (hs.keep kx (fun _ e => by cases e)).cmd hc
    obtain rfl : g' = g := by rw [hv] at hv'; injection hv' with e _ _; injection e with e; injection e with e; exact e.symm
    exact hcell
  refine look_do (b := true) (p2 := p.on) hM hs (by rw [e1]; exact hc) hv hA.c3 hA.c2 ht (by omega) (by omega) hen (fun w1 s1 m1 q1' => ?_) rfl (fun w2 s2 m2 q2 => by rw [e1]; exact hD w2 s2 g m2 q2 (key w2 m2.r.kp))
  have e3 : s1.p = p.on := by rw [q1', hp, e1, e2]; rfl
  have hh := ((hs.keep m1.r.kp (fun _ e => by cases e)).fx _ hm).1
  rw [← e3, e1]
  have hnn : s1.number = n := (congrArg Pst.number e3).trans hn
  exact addressed_num m1 (key _ m1.r.kp 0 _ h0) (cells_at hh q0) (cells_at hh q1) (by rw [hnn]; simp)

theorem look_past {p : Pst} {c : List Value} {x n i f : Nat} (hs : Scr lo hi w0 sb 0 σ) (hc : σ.cs[p.pc]? = some c) (hA : AtNum σ c x n) (hst : p.steps < 2000) (hpc : p.pc < 2000)
    (ht : Instr.findNow (.int .u8) (.int .u8 x) (tabE 0 deedsL) 0 = some (some (i, .func (.func f) #[] #[]))) (hn : p.number ≠ n) (hx : x ≠ 123) : Look w0 mb sb db p p.on := fun w s hM hp => by
  have e1 : s.pc = p.pc := congrArg Pst.pc hp
  have e2 : s.steps = p.steps := congrArg Pst.steps hp
  obtain ⟨ap, ca, cells, h0, hm, q0, q1⟩ := hA.c0
  obtain ⟨g, cap, hv, _⟩ := hs.cmd hc
  have key : ∀ wx, Kp [] w0 wx → ∀ j u, c[j]? = some u → wx.cell? ⟨g, p.pc * 23 + j, none⟩ = some u := fun wx kx => by
    obtain ⟨g', cap', hv', hcell⟩ := (hs.keep kx (fun _ e => by cases e)).cmd hc
    obtain rfl : g' = g := by rw [hv] at hv'; injection hv' with e _ _; injection e with e; injection e with e; exact e.symm
    exact hcell
  refine look_skip (b := false) (p2 := p.on) hM hs (by rw [e1]; exact hc) hv hA.c3 hA.c2 ht (by omega) (by omega) (fun w1 s1 m1 q1' => ?_) rfl hx
  have e3 : s1.p = p.on := by rw [q1', hp, e1, e2]; rfl
  have hh := ((hs.keep m1.r.kp (fun _ e => by cases e)).fx _ hm).1
  rw [← e3, e1]
  have hnn : s1.number = p.number := congrArg Pst.number e3
  exact addressed_num m1 (key _ m1.r.kp 0 _ h0) (cells_at hh q0) (cells_at hh q1) (by rw [hnn]; simp; omega)

/-- What a script does with a line of such a number. -/
def DoesIf (ok : Nat → Prop) (σ : Sst) (tl : Nat → List UInt8 → List UInt8) (ct : Nat → List UInt8 → Nat) : Prop :=
  ∀ (w0 : World) (mb sb db lo hi : Nat), Scr lo hi w0 sb 0 σ → ∀ p k L, Beg σ.ns.length p k L → ok k → k < 100 → L.length ≤ 1000 → p.count + ct k L ≤ 190000 → ∃ p', Looks w0 mb sb db p p' ∧ Cyc σ.ns.length p p' (tl k L) (ct k L)

theorem run_to {ok : Nat → Prop} {tl : Nat → List UInt8 → List UInt8} {ct : Nat → List UInt8 → Nat} (hd : DoesIf ok σ tl ct) (hs : Scr lo hi w0 sb 0 σ) {M : List UInt8} {Q : Pst → Prop} :
    ∀ (ls : List (List UInt8)), (∀ l ∈ ls, (10 : UInt8) ∉ l ∧ l.length ≤ 1000) → ∀ p, Btw σ.ns.length p → p.left = ba (wh ls ++ M) → p.number + ls.length < 100 → (∀ i, p.number < i → i ≤ p.number + ls.length → ok i) → p.count + cnt ct (p.number + 1) ls ≤ 190000 → (wh ls ++ M).length ≤ 90000 →
      (∀ p', Btw σ.ns.length p' → p'.left = ba M → p'.ended = p.ended → p'.number = p.number + ls.length → p'.out = p.out ++ told tl (p.number + 1) ls → p'.count = p.count + cnt ct (p.number + 1) ls → ∃ n p2, RunP w0 mb sb db n p' p2 ∧ Q p2) → ∃ n p2, RunP w0 mb sb db n p p2 ∧ Q p2
  | [], _, p, hb, hl, _, _, _, _, hK => hK p hb (by rw [hl]; rfl) rfl (by simp) (by simp [told]) (by simp [cnt])
  | l :: ls, hls, p, hb, hl, hn, hok, hc, h9, hK => by
    have e : wh (l :: ls) ++ M = l ++ 10 :: (wh ls ++ M) := by simp [wh]
    rw [e] at hl h9
    rw [List.length_append, List.length_cons] at h9
    rw [List.length_cons] at hn hok
    have hl1 := hls l (by simp)
    have hbeg := hb.beg l (wh ls ++ M)
    obtain ⟨q, hlk, hcy⟩ := hd w0 mb sb db lo hi hs _ _ _ hbeg (hok _ (by omega) (by omega)) (by omega) hl1.2 (by show p.count + ct (p.number + 1) l ≤ _; simp only [cnt] at hc; omega)
    have qn : q.number = p.number + 1 := hcy.number
    have qc : q.count = p.count + ct (p.number + 1) l := hcy.count
    have qo : q.out = p.out ++ tl (p.number + 1) l := hcy.out
    have qe : q.ended = p.ended := hcy.ended
    obtain ⟨n, p2, hr, hQ⟩ := run_to hd hs (M := M) (Q := Q) ls (fun l hl => hls l (by simp [hl])) q hcy.btw hcy.left (by omega) (fun i h1 h2 => hok i (by omega) (by omega)) (by rw [qc, qn]; simp only [cnt] at hc; omega) (by rw [List.length_append] at h9 ⊢; omega) (fun p' b' l' e' n' o' c' => hK p' b' l' (e'.trans qe) (by rw [n', qn]; simp; omega) (by rw [o', qo, qn, told, List.append_assoc]) (by rw [c', qc, qn, cnt]; omega))
    obtain ⟨m, hm⟩ := RunP.cycle hb.over (sup_line hb hl hl1.1 hl1.2 (by omega) (by omega)) hlk hr
    exact ⟨m, p2, hm, hQ⟩

theorem quit_past {c : List Value} {K : Nat} (hc : σ.cs = [c]) (hq : σ.quiet = false) (hA : AtNum σ c 113 K) : DoesIf (· ≠ K) σ (fun _ L => L ++ [10]) (fun _ L => L.length + 1) := by
  intro w0 mb sb db lo hi hs p k L hb hok hk hL hn
  have hz : p.space.size = L.length := by rw [hb.space, ba_size]
  have hd : p.space.data.toList = L := by rw [hb.space, ba_list]
  have o := hb.out
  have hn' : p.count + (L.length + 1) ≤ 190000 := hn
  refine ⟨p.on.endCycle σ.quiet, .more (look_past hs (by rw [hb.pc, hc]; rfl) hA (by rw [hb.steps]; omega) (by rw [hb.pc]; omega) deed_q (by rw [hb.number]; exact hok) (by omega)) hb.over hb.wants (.last (look_ends hs (by show p.pc + 1 = _; rw [hb.pc, hc]; rfl) (by show p.count + p.space.size + 1 ≤ _; omega) o hb.br)), ?_⟩
  rw [hq]
  refine ⟨⟨rfl, hb.over, hb.err, hb.status, hb.ahead, hb.br, ?_, hb.fb.up rfl (by show p.count ≤ p.count + p.space.size + 1; omega)⟩, rfl, rfl, rfl, ?_, ?_⟩
  · show (p.out ++ p.space.data.toList ++ [10]).length ≤ p.count + p.space.size + 1
    rw [hd, hz]; simp; omega
  · show p.out ++ p.space.data.toList ++ [10] = _
    rw [hd]; simp
  · show p.count + p.space.size + 1 = p.count + (L.length + 1)
    rw [hz]; omega

theorem told_wh (k : Nat) (ls : List (List UInt8)) : told (fun _ L => L ++ [10]) k ls = wh ls := by
  induction ls generalizing k with
  | nil => rfl
  | cons l ls ih => rw [told, ih]; simp [wh]
theorem cnt_wh (k : Nat) (ls : List (List UInt8)) : cnt (fun _ L => L.length + 1) k ls = (wh ls).length := by
  induction ls generalizing k with
  | nil => rfl
  | cons l ls ih => rw [cnt, ih]; simp [wh]; omega
theorem wh_app (a b : List (List UInt8)) : wh (a ++ b) = wh a ++ wh b := by simp [wh]
theorem wh_cons (a : List UInt8) (b : List (List UInt8)) : wh (a :: b) = a ++ 10 :: wh b := by simp [wh]

theorem acts_quit {c : List Value} {K : Nat} {A B : List (List UInt8)} {L : List UInt8} (hc : σ.cs = [c]) (hq : σ.quiet = false) (hA : AtNum σ c 113 K) (h8 : c[8]? = some (.int .i64 K)) (hls : ∀ l ∈ A ++ L :: B, (10 : UInt8) ∉ l ∧ l.length ≤ 1000) (hK : K = A.length + 1) (hn : A.length < 90) (h9 : (wh (A ++ L :: B)).length ≤ 90000) :
    Acts σ false (ba (wh (A ++ L :: B))) (wh (A ++ [L])) K := by
  intro w0 mb sb db lo hi hs
  have e : wh (A ++ L :: B) = wh A ++ (L ++ 10 :: wh B) := by rw [wh_app, wh_cons]
  have h9' := h9
  rw [e] at h9
  have hL := hls L (by simp)
  rw [List.length_append, List.length_append, List.length_cons] at h9
  obtain ⟨n, p1, hr, hQ⟩ := run_to (mb := mb) (db := db) (quit_past hc hq hA) hs (M := L ++ 10 :: wh B) (Q := fun p2 => p2.left = ba (wh B) ∧ p2.err = 0 ∧ p2.over = true ∧ p2.out = wh (A ++ [L]) ∧ p2.status = K) A (fun l hl => hls l (by simp [hl])) ({ pst0 false σ.ns.length σ.ranges with left := ba (wh (A ++ L :: B)) } : Pst) ⟨rfl, rfl, rfl, rfl, rfl, rfl, Nat.le_refl _, fbs0 _ _ _ _⟩ (by rw [← e]) (by show 0 + A.length < 100; omega) (fun i h1 h2 => by have h2' : i ≤ 0 + A.length := h2; omega) (by rw [cnt_wh]; show 0 + _ ≤ _; omega) (by rw [← e]; exact h9') (fun p' b' l' e' n' o' c' => by
    have n0 : p'.number = A.length := by rw [n']; show 0 + A.length = _; omega
    have c0 : p'.count = (wh A).length := by rw [c', cnt_wh]; show 0 + _ = _; omega
    have o0 : p'.out = wh A := by rw [o', told_wh]; show [] ++ wh A = _; simp
    have hbeg := b'.beg L (wh B)
    refine (RunP.cycle (n := 0) (p2 := ((p'.line L (wh B)).on).endAll σ.quiet K) b'.over (sup_line b' l' hL.1 hL.2 (by omega) (by omega)) (.last (look_at (p3 := ((p'.line L (wh B)).on).endAll σ.quiet K) hs (by rw [hc]; rfl) hA (by show (0 : Nat) < 2000; omega) (by show (0 : Nat) < 2000; omega) enters_q deed_q (by show p'.number + 1 = K; omega) (fun w2 s2 g m2 e2 hcell => ?_))) (.over rfl)).elim fun m hm => ⟨m, _, hm, by rw [hq]; rfl, by rw [hq]; exact b'.err, rfl, ?_, rfl⟩
    · have es : s2.space = ba L := congrArg Pst.space e2
      have := quit_v (ca := g) (co := (p'.line L (wh B)).pc * 23) m2 hs (room_of e2 (by rw [es, ba_size]; show p'.count + L.length + 1 ≤ _; omega) b'.out b'.br) (hcell 8 _ h8)
      rw [e2] at this
      exact this
    · rw [hq]
      show p'.out ++ (ba L).data.toList ++ [10] = _
      rw [ba_list, o0, wh_app]
      simp [wh])
  obtain ⟨q1, q2, q3, q4, q5⟩ := hQ
  exact ⟨n, p1, hr, by rw [q1, ba_size]; omega, q2, .inl ⟨q3, q4, q5⟩⟩

theorem acts_noquit {c : List Value} {K : Nat} {ls : List (List UInt8)} (hc : σ.cs = [c]) (hq : σ.quiet = false) (hA : AtNum σ c 113 K) (hls : ∀ l ∈ ls, (10 : UInt8) ∉ l ∧ l.length ≤ 1000) (hK : ls.length < K) (hn : ls.length < 90) (h9 : (wh ls).length ≤ 90000) :
    Acts σ false (ba (wh ls)) (wh ls) 0 := by
  intro w0 mb sb db lo hi hs
  obtain ⟨n, p1, hr, b', l', o'⟩ := run_to (mb := mb) (db := db) (quit_past hc hq hA) hs (M := []) (Q := fun p2 => Btw σ.ns.length p2 ∧ p2.left = ba [] ∧ p2.out = wh ls) ls hls ({ pst0 false σ.ns.length σ.ranges with left := ba (wh ls) } : Pst) ⟨rfl, rfl, rfl, rfl, rfl, rfl, Nat.le_refl _, fbs0 _ _ _ _⟩ (by simp) (by show 0 + ls.length < 100; omega) (fun i h1 h2 => by have h2' : i ≤ 0 + ls.length := h2; omega) (by rw [cnt_wh]; show 0 + _ ≤ _; omega) (by simpa using h9) (fun p' b' l' e' n' o' c' => ⟨0, p', run_dry b' l' (by simp) (by simp) (.inr rfl), b', l', by rw [o', told_wh]; show [] ++ wh ls = _; simp⟩)
  refine ⟨n, p1, hr, by rw [l', ba_size]; simp, b'.err, .inr ⟨b'.over, 0, _, run_dry (p := { p1.replied with ended := true }) (L := []) ⟨b'.wants, b'.over, b'.err, b'.status, b'.ahead, b'.br, Nat.zero_le _, b'.fb.up rfl (Nat.le_refl _)⟩ ?_ (by simp) (by simp) (.inr rfl), ?_, b'.err, b'.status, ?_⟩⟩
  · show (if p1.over then (⟨#[]⟩ : ByteArray) else p1.left) = _
    rw [b'.over, l']; rfl
  · show (if p1.over then (⟨#[]⟩ : ByteArray) else p1.left).size ≤ _
    rw [b'.over, l']
    show (ba []).size ≤ _
    rw [ba_size]; simp
  · rw [o']
    show wh ls ++ [] = _
    simp
end
end Go.Proofs.YtonnimbcekhbgaaGreatDoor
