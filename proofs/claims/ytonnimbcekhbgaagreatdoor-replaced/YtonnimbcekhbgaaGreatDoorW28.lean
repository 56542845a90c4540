/- What the claim needs of: FGToFJ FKToFL FMToFV FW FNToFX KC. -/
import Derived.Test.YtonnimbcekhbgaaGreatDoorW27
import Derived.Test.YtonnimbcekhbgaaGreatDoorW19
import Derived.Test.YtonnimbcekhbgaaGreatDoorW25
import Derived.Test.YtonnimbcekhbgaaGreatDoorW21
import Derived.Test.YtonnimbcekhbgaaGreatDoorW24
import Derived.Test.YtonnimbcekhbgaaGreatDoorW03

/- FGToFJ. -/
namespace Go.Proofs.YtonnimbcekhbgaaGreatDoor
open Go.RowKit

section
variable {w0 w w' : World} {mb sb db lo hi : Nat} {s s' : Mst} {σ : Sst}

/-- It looks at one command. -/
def Look (w0 : World) (mb sb db : Nat) (p p' : Pst) : Prop := ∀ w s, Mac w0 w mb sb db s → s.p = p → Calls Tryz.prog 63 #[.pointer (some ⟨mb, 0, none⟩)] w fun r w' => r = .returned (.tuple #[]) ∧ Goes w0 mb sb db w s w' p'
/-- It looks at commands, one behind the other. -/
inductive Looks (w0 : World) (mb sb db : Nat) : Pst → Pst → Prop
  | last {p p' : Pst} (h : Look w0 mb sb db p p') : Looks w0 mb sb db p p'
  | more {p q p' : Pst} (h : Look w0 mb sb db p q) (ho : q.over = false) (hw : q.wants = .nilFunc) (hr : Looks w0 mb sb db q p') : Looks w0 mb sb db p p'

def Sup (w0 : World) (mb sb db : Nat) (p p1 : Pst) : Prop := ∀ w s, Mac w0 w mb sb db s → s.p = p → Calls Tryz.prog 62 #[.pointer (some ⟨mb, 0, none⟩)] w fun r w' => r = .returned (.bool true) ∧ Goes w0 mb sb db w s w' p1

theorem RunP.cycle {p p1 p' p2 : Pst} {n : Nat} (ho : p.over = false) (hs : Sup w0 mb sb db p p1) (hl : Looks w0 mb sb db p1 p') (hr : RunP w0 mb sb db n p' p2) : ∃ m, RunP w0 mb sb db m p p2 := by
  induction hl generalizing p with
  | last h => exact ⟨_, .round ho hs h hr⟩
  | more h ho' hw _ ih =>
    obtain ⟨m, hm⟩ := ih ho' (fun w s hM hp => by
      have := supplied_on hM (by rw [show s.wants = _ from congrArg Pst.wants hp]; exact hw)
      rw [hp] at this
      exact this) hr
    exact ⟨_, .round ho hs h hm⟩

/-- What was written: so many files, no more than is counted. -/
structure Fbs (F : Nat) (p : Pst) : Prop where
  len : p.fb.length = F
  le : ∀ (i : Nat) (bs : List UInt8), p.fb[i]? = some bs → bs.length ≤ p.count
theorem Fbs.up {F : Nat} {p p' : Pst} (h : Fbs F p) (e : p'.fb = p.fb) (hc : p.count ≤ p'.count) : Fbs F p' := ⟨by rw [e]; exact h.len, fun i bs hb => Nat.le_trans (h.le i bs (by rw [← e]; exact hb)) hc⟩

/-- Between two cycles. -/
structure Btw (F : Nat) (p : Pst) : Prop where
  wants : p.wants = bwV
  over : p.over = false
  err : p.err = 0
  status : p.status = 0
  ahead : p.ahead = false
  br : p.br = []
  out : p.out.length ≤ p.count
  fb : Fbs F p

/-- A line is read. -/
theorem sup_line {F : Nat} {p : Pst} {L R : List UInt8} (hb : Btw F p) (hl : p.left = ba (L ++ 10 :: R)) (hn : (10 : UInt8) ∉ L) (h1000 : L.length ≤ 1000) (hR : R.length ≤ 90000) (hnum : p.number ≤ 1000000) : Sup w0 mb sb db p (p.line L R) := fun w s hM hp => by
  have e1 : s.left = ba (L ++ 10 :: R) := (congrArg Pst.left hp).trans hl
  have e2 : s.ahead = false := (congrArg Pst.ahead hp).trans hb.ahead
  have e3 : s.wants = bwV := (congrArg Pst.wants hp).trans hb.wants
  have e4 : s.number = p.number := congrArg Pst.number hp
  have := supplied_yes (L := L) (R := R) hM e3 (by omega) (next_line hM e1 hn h1000 hR (by cases he : s.ended <;> simp [e2]))
  rw [hp] at this
  exact this
theorem run_dry {F : Nat} {p : Pst} {L : List UInt8} (hb : Btw F p) (hl : p.left = ba L) (hn : (10 : UInt8) ∉ L) (h1000 : L.length ≤ 1000) (he : p.ended = false ∨ L = []) : RunP w0 mb sb db 0 p p := .dry hb.over (fun w s hM hp => by
  have e1 : s.left = ba L := (congrArg Pst.left hp).trans hl
  have e2 : s.ahead = false := (congrArg Pst.ahead hp).trans hb.ahead
  have e3 : s.wants = bwV := (congrArg Pst.wants hp).trans hb.wants
  have e5 : s.ended = p.ended := congrArg Pst.ended hp
  have := supplied_no hM e3 (next_none hM e1 hn h1000 (by
    cases hq : s.ended with
    | false => exact .inr ⟨rfl, e2⟩
    | true =>
      refine .inl ⟨rfl, ?_⟩
      rcases he with q | q
      · rw [← e5, hq] at q; cases q
      · exact q))
  rw [hp] at this
  exact this)

/-- At the beginning of a cycle. -/
structure Beg (F : Nat) (p : Pst) (k : Nat) (L : List UInt8) : Prop where
  wants : p.wants = .nilFunc
  over : p.over = false
  err : p.err = 0
  status : p.status = 0
  ahead : p.ahead = false
  br : p.br = []
  out : p.out.length ≤ p.count
  pc : p.pc = 0
  steps : p.steps = 0
  number : p.number = k
  space : p.space = ba L
  fb : Fbs F p
theorem Btw.beg {F : Nat} {p : Pst} (h : Btw F p) (L R : List UInt8) : Beg F (p.line L R) (p.number + 1) L := ⟨rfl, h.over, h.err, h.status, h.ahead, h.br, h.out, rfl, rfl, rfl, rfl, h.fb.up rfl (Nat.le_refl _)⟩

/-- What a cycle comes to: so much is told, so much is counted. -/
structure Cyc (F : Nat) (p p' : Pst) (t : List UInt8) (c : Nat) : Prop where
  btw : Btw F p'
  left : p'.left = p.left
  ended : p'.ended = p.ended
  number : p'.number = p.number
  out : p'.out = p.out ++ t
  count : p'.count = p.count + c

/-- What a script does with a line: it tells so, counts so. -/
def Does (σ : Sst) (tl : Nat → List UInt8 → List UInt8) (ct : Nat → List UInt8 → Nat) : Prop :=
  ∀ (w0 : World) (mb sb db lo hi : Nat), Scr lo hi w0 sb 0 σ → ∀ p k L, Beg σ.ns.length p k L → k < 100 → L.length ≤ 1000 → p.count + ct k L ≤ 190000 → ∃ p', Looks w0 mb sb db p p' ∧ Cyc σ.ns.length p p' (tl k L) (ct k L)

/-- Lines, each with its newline. -/
def wh (ls : List (List UInt8)) : List UInt8 := ls.flatMap (fun l => l ++ [10])
/-- What is told of lines, from the number k on. -/
def told (tl : Nat → List UInt8 → List UInt8) : Nat → List (List UInt8) → List UInt8
  | _, [] => []
  | k, l :: ls => tl k l ++ told tl (k + 1) ls
def cnt (ct : Nat → List UInt8 → Nat) : Nat → List (List UInt8) → Nat
  | _, [] => 0
  | k, l :: ls => ct k l + cnt ct (k + 1) ls

theorem run_lines {tl : Nat → List UInt8 → List UInt8} {ct : Nat → List UInt8 → Nat} (hd : Does σ tl ct) (hs : Scr lo hi w0 sb 0 σ) {M : List UInt8} (hM : (10 : UInt8) ∉ M) (hM2 : M.length ≤ 1000) :
    ∀ (ls : List (List UInt8)), (∀ l ∈ ls, (10 : UInt8) ∉ l ∧ l.length ≤ 1000) → ∀ p, Btw σ.ns.length p → p.left = ba (wh ls ++ M) → (p.ended = false ∨ M = []) → p.number + ls.length < 100 → p.count + cnt ct (p.number + 1) ls ≤ 190000 → (wh ls ++ M).length ≤ 90000 →
      ∃ n p', RunP w0 mb sb db n p p' ∧ Btw σ.ns.length p' ∧ p'.left = ba M ∧ p'.ended = p.ended ∧ p'.number = p.number + ls.length ∧ p'.out = p.out ++ told tl (p.number + 1) ls ∧ p'.count = p.count + cnt ct (p.number + 1) ls
  | [], _, p, hb, hl, he, _, _, _ => ⟨0, p, run_dry hb (by rw [hl]; rfl) hM hM2 he, hb, by rw [hl]; rfl, rfl, by simp, by simp [told], by simp [cnt]⟩
  | l :: ls, hls, p, hb, hl, he, hn, hc, h9 => by
    have e : wh (l :: ls) ++ M = l ++ 10 :: (wh ls ++ M) := by simp [wh]
    rw [e] at hl h9
    rw [List.length_append, List.length_cons] at h9
    rw [List.length_cons] at hn
    have hl1 := hls l (by simp)
    have hbeg := hb.beg l (wh ls ++ M)
    obtain ⟨q, hlk, hcy⟩ := hd w0 mb sb db lo hi hs _ _ _ hbeg (by omega) hl1.2 (by show p.count + ct (p.number + 1) l ≤ _; simp only [cnt] at hc; omega)
    have qn : q.number = p.number + 1 := hcy.number
    have qc : q.count = p.count + ct (p.number + 1) l := hcy.count
    have qo : q.out = p.out ++ tl (p.number + 1) l := hcy.out
    have qe : q.ended = p.ended := hcy.ended
    obtain ⟨n, p', hr, b', l', e', n', o', c'⟩ := run_lines hd hs hM hM2 ls (fun l hl => hls l (by simp [hl])) q hcy.btw (hcy.left) (by rw [qe]; exact he) (by omega) (by rw [qc, qn]; simp only [cnt] at hc; omega) (by omega)
    obtain ⟨m, hm⟩ := RunP.cycle hb.over (sup_line hb hl hl1.1 hl1.2 (by omega) (by omega)) hlk hr
    refine ⟨m, p', hm, b', l', e'.trans qe, by rw [n', qn]; simp; omega, ?_, ?_⟩
    · rw [o', qo, qn, told, List.append_assoc]
    · rw [c', qc, qn, cnt]; omega
end
end Go.Proofs.YtonnimbcekhbgaaGreatDoor

/- What some scripts do with lines. -/
namespace Go.Proofs.YtonnimbcekhbgaaGreatDoor
open Go.RowKit

section
variable {w0 w w' : World} {mb sb db lo hi : Nat} {s s' : Mst} {σ : Sst}

theorem fbs0 (ah : Bool) (nf nr : Nat) (l : ByteArray) : Fbs nf ({ pst0 ah nf nr with left := l } : Pst) := ⟨by simp [pst0, mst0, Mst.p], fun i bs h => by
  simp only [pst0, mst0, Mst.p, List.getElem?_replicate] at h
  split at h
  · injection h with h; subst h; exact Nat.zero_le _
  · cases h⟩
/-- Lines with their newlines, fed at once. -/
theorem acts_whole {tl : Nat → List UInt8 → List UInt8} {ct : Nat → List UInt8 → Nat} {ls : List (List UInt8)} (hd : Does σ tl ct) (hls : ∀ l ∈ ls, (10 : UInt8) ∉ l ∧ l.length ≤ 1000) (hn : ls.length < 99) (hc : cnt ct 1 ls ≤ 190000) (h9 : (wh ls).length ≤ 90000) : Acts σ false (ba (wh ls)) (told tl 1 ls) 0 := by
  intro w0 mb sb db lo hi hs
  obtain ⟨n, p', hr, b', l', e', _, o', _⟩ := run_lines (mb := mb) (db := db) hd hs (M := []) (by simp) (by simp) ls hls ({ pst0 false σ.ns.length σ.ranges with left := ba (wh ls) } : Pst) ⟨rfl, rfl, rfl, rfl, rfl, rfl, Nat.le_refl _, fbs0 _ _ _ _⟩ (by simp) (.inl rfl) (by show 0 + ls.length < 100; omega) (by show 0 + cnt ct (0 + 1) ls ≤ _; simpa using hc) (by simpa using h9)
  refine ⟨n, p', hr, by rw [l', ba_size]; simp, b'.err, .inr ⟨b'.over, 0, _, run_dry (p := { p'.replied with ended := true }) (L := []) ⟨b'.wants, b'.over, b'.err, b'.status, b'.ahead, b'.br, Nat.zero_le _, b'.fb.up rfl (Nat.le_refl _)⟩ ?_ (by simp) (by simp) (.inr rfl), ?_, b'.err, b'.status, ?_⟩⟩
  · show (if p'.over then (⟨#[]⟩ : ByteArray) else p'.left) = _
    rw [b'.over, l']; rfl
  · show (if p'.over then (⟨#[]⟩ : ByteArray) else p'.left).size ≤ _
    rw [b'.over, l']
    show (ba []).size ≤ _
    rw [ba_size]; simp
  · rw [o']
    show ([] ++ told tl (0 + 1) ls) ++ [] = _
    simp

theorem room_of {p : Pst} {t : ByteArray} (hp : s.p = p) (h1 : p.count + t.size + 1 ≤ 200000) (h2 : p.out.length ≤ p.count) (h3 : p.br = []) : Room s t :=
  ⟨by rw [show s.count = p.count from congrArg Pst.count hp]; exact h1, by rw [show s.r.out = p.out from congrArg Pst.out hp, show s.count = p.count from congrArg Pst.count hp]; exact h2, (congrArg Pst.br hp).trans h3⟩

theorem look_ends {p : Pst} (hs : Scr lo hi w0 sb 0 σ) (hpc : p.pc = σ.cs.length) (h1 : p.count + p.space.size + 1 ≤ 200000) (h2 : p.out.length ≤ p.count) (h3 : p.br = []) : Look w0 mb sb db p (p.endCycle σ.quiet) := fun w s hM hp => by
  have e : s.space = p.space := congrArg Pst.space hp
  have := look_end hM hs (by rw [e]; exact room_of hp h1 h2 h3) (by rw [show s.pc = p.pc from congrArg Pst.pc hp]; exact hpc)
  rw [hp] at this
  exact this

end
end Go.Proofs.YtonnimbcekhbgaaGreatDoor

/- What some scripts do with lines: nothing, p, =, d. -/
namespace Go.Proofs.YtonnimbcekhbgaaGreatDoor
open Go.RowKit

section
variable {w0 w w' : World} {mb sb db lo hi : Nat} {s s' : Mst} {σ : Sst}

/-- A command without an address. -/
structure Plain (c : List Value) (x : Nat) : Prop where
  c3 : c[3]? = some (.int .u8 x)
  c2 : c[2]? = some (.bool false)
  c0 : ∃ A ca, c[0]? = some (.slice A 0 ca)

def Pst.on (p : Pst) : Pst := { p with pc := p.pc + 1, steps := p.steps + 1 }

end
end Go.Proofs.YtonnimbcekhbgaaGreatDoor

/- What q with a number does. -/
namespace Go.Proofs.YtonnimbcekhbgaaGreatDoor
open Go.RowKit

section
variable {w0 w w' : World} {mb sb db lo hi : Nat} {s s' : Mst} {σ : Sst}

/-- A command with a number for its address. -/
structure AtNum (σ : Sst) (c : List Value) (x n : Nat) : Prop where
  c3 : c[3]? = some (.int .u8 x)
  c2 : c[2]? = some (.bool false)
  c0 : ∃ p ca cells, c[0]? = some (.slice (some ⟨p, 0, none⟩) 1 ca) ∧ (p, Obj.cells cells 120 (0, 0)) ∈ σ.fs ∧ cells[0]? = some (.int .i64 0) ∧ cells[1]? = some (.int .i64 n)

theorem AtNum.of {c : List Value} {x n : Nat} {v : Value} (h3 : c[3]? = some (.int .u8 x)) (h2 : c[2]? = some (.bool false)) (h0 : c[0]? = some v) (hv : AdrsV σ.fs v [.num n]) : AtNum σ c x n := by
  refine ⟨h3, h2, ?_⟩
  rcases hv with ⟨q, _⟩ | ⟨p, ca, cells, rfl, hm, hc⟩
  · cases q
  · obtain ⟨va, rfl, hc⟩ := hc 0 _ rfl
    exact ⟨p, ca, cells, h0, hm, hc 0 _ rfl, hc 1 _ rfl⟩

theorem cells_at {p i : Nat} {cells : Array Value} {t : TypeId} {v : Value} (h : w.heap[p]? = some (Obj.cells cells t (0, 0))) (hv : cells[i]? = some v) : w.cell? ⟨p, i, none⟩ = some v := by
  simp [World.cell?, h, hv]

end
end Go.Proofs.YtonnimbcekhbgaaGreatDoor

/- FKToFL. -/
namespace Go.Proofs.YtonnimbcekhbgaaGreatDoor
open Go.RowKit

section
variable {w0 w w1 w' : World} {mb sb db lo hi : Nat} {s s' : Mst} {σ : Sst}

end
end Go.Proofs.YtonnimbcekhbgaaGreatDoor

/- The script's reader: a file's name. -/
namespace Go.Proofs.YtonnimbcekhbgaaGreatDoor
open Go.RowKit Go.MapKept

section
variable {P : Program} {w : World} {t k e : TypeId} {b c : Nat} {es : Array MapEntry} {x : ByteArray} {v : Value}
end

section
variable {w0 w w1 w2 : World} {b k g cap : Nat} {src : ByteArray} {σ : Sst} {cv : List Value} {x : ByteArray}

theorem Tryz.infoStr : (Tryz.prog.info? 9).map (fun i => (i.zero, i.size, i.bytes)) = some (some (.string ⟨#[]⟩), 1, 16) := by kernel_rfl

end
end Go.Proofs.YtonnimbcekhbgaaGreatDoor

/- FMToFV. -/
namespace Go.Proofs.YtonnimbcekhbgaaGreatDoor
open Go.RowKit

section
variable {w0 w w' : World} {mb sb db lo hi : Nat} {s s' : Mst} {σ : Sst}

end
end Go.Proofs.YtonnimbcekhbgaaGreatDoor

/- The script's reader: parts between slashes. -/
namespace Go.Proofs.YtonnimbcekhbgaaGreatDoor
open Go.RowKit

section
variable {w w' : World} {b k : Nat} {src : ByteArray}

set_option maxHeartbeats 400000 in
theorem stay_v (hr : Cur w b src k) (hk : k < src.size) (h10 : saw src k 10 = false) :
    Calls Tryz.prog 131 #[.pointer (some ⟨b, 0, none⟩)] w fun e w' => e = .returned (.tuple #[]) ∧ Cur w' b src k ∧ Mv b w w' := by
  have he : ((k : Int) == (src.size : Int)) = false := by simp; omega
  have H := hid h10
  clear h10
  go_enter Tryz.func131, Tryz.ntmps131
  go_wp2_with fail
  refine (ended_v hr he).mono ?_
  rintro e w1 ⟨rfl, h1, m1⟩
  go_wp2_with fail
  refine (sees_v 10 h1 H.out).mono ?_
  rintro e w2 ⟨rfl, h2, m2⟩
  go_wp2_with fail
  go_end0
  exact ⟨rfl, h2, m1.trans m2⟩

set_option maxHeartbeats 400000 in
theorem shut_v (hr : Cur w b src k) (hk : k < src.size) (h10 : saw src k 10 = false) {v : Bool} (h : saw src k 47 = v) :
    Calls Tryz.prog 130 #[.pointer (some ⟨b, 0, none⟩)] w fun e w' => e = .returned (.bool v) ∧ Cur w' b src (if v then k + 1 else k) ∧ Mv b w w' := by
  have H := hid h
  clear h
  go_enter Tryz.func130, Tryz.ntmps130
  go_wp2_with fail
  refine (stay_v hr hk h10).mono ?_
  rintro e w1 ⟨rfl, h1, m1⟩
  have T := hid (take_v 47 h1 H.out)
  cases v
  all_goals
    go_wp2_with fail
    refine T.out.mono ?_
    rintro e w2 ⟨rfl, h2, m2⟩
    go_wp2_with fail
    go_ret
    exact ⟨rfl, h2, m1.trans m2⟩

set_option maxHeartbeats 1000000 in
theorem part_v {x : UInt8} (esc : ByteArray) (hr : Cur w b src k) (hk : k < src.size) (hx : src[k] = x) (h : saw src k 92 = false) :
    Calls Tryz.prog 105 #[.pointer (some ⟨b, 0, none⟩), .string esc] w fun e w' => e = .returned (.int .u8 (x.toNat : Nat)) ∧ Cur w' b src (k + 1) ∧ Mv b w w' := by
  have H := hid h
  have hsm := hr.small
  have HX := hid hx
  clear h hx
  go_enter Tryz.func105, Tryz.ntmps105
  go_wp2_with fail
  refine (sees_v 92 hr H.out).mono ?_
  rintro e w1 ⟨rfl, h1, m1⟩
  have c1 := h1.c1
  have f1 := h1.free 1
  have s2 := h1.step hk
  have m2 := m1.trans (Mv.step b w1 (.int .i64 ((k : Int) + 1)))
  obtain ⟨v1, hv1⟩ : ∃ v1 : Int, v1 = (k : Int) + 1 := ⟨_, rfl⟩
  rw [← hv1] at s2 m2
  obtain ⟨w2, hw2⟩ : ∃ w2, w2 = w1.setCell ⟨b, 1, none⟩ (.int .i64 v1) := ⟨_, rfl⟩
  rw [← hw2] at s2 m2
  have d0 := s2.c0
  have d1 := s2.c1
  have e1 : ((k + 1 : Nat) : Int) - 1 = (k : Int) := by omega
  have wk := wrap_i64_nat k (by omega)
  have c5 : (⟨src.data⟩ : ByteArray)[k] = x := HX.out
  obtain ⟨k1, hk1⟩ : ∃ k1, k1 = k + 1 := ⟨_, rfl⟩
  rw [← hk1] at d1 e1
  clear hk1
  go_upto_region 3 with fail
  rw [← hv1, ← hw2]
  clear hw2 c1 f1
  go_quiet (fail)
  go_wp2_with fail
  go_ret
  exact ⟨rfl, s2.drewN _, m2.trans (Mv.drewN _ _ _)⟩
end
end Go.Proofs.YtonnimbcekhbgaaGreatDoor

/- FW. -/
namespace Go.Proofs.YtonnimbcekhbgaaGreatDoor
open Go.RowKit

/-- A table of 256 cells. -/
structure Arr (w : World) (t : Nat) (f : Nat → Value) : Prop where
  lt : t < w.heap.size
  at_ : ∀ j, j < 256 → w.cell? ⟨t, j, none⟩ = some (f j)
  free : ∀ j, w.frozen? ⟨t, j, none⟩ = false
theorem Arr.set {w : World} {t k : Nat} {v : Value} {f : Nat → Value} (h : Arr w t f) (hk : k < 256) : Arr (w.setCell ⟨t, k, none⟩ v) t (fun j => if j = k then v else f j) := by
  refine ⟨by simpa using h.lt, fun j hj => ?_, fun j => by simpa using h.free j⟩
  by_cases e : j = k
  · subst e
    rw [if_pos rfl]
    exact cell_same _ (h.at_ j hj)
  · rw [if_neg e]
    exact (cell_other _ (fun q => by injection q with _ q _; exact e q.symm)).trans (h.at_ j hj)
theorem Arr.keep {w w' : World} {t : Nat} {f : Nat → Value} {S : List Nat} (h : Arr w t f) (k : Kp S w w') (hn : t ∉ S) : Arr w' t f :=
  ⟨Nat.lt_of_lt_of_le h.lt k.size, fun j hj => (k.cell (p := ⟨t, j, none⟩) h.lt hn).trans (h.at_ j hj), fun j => (k.frozen (p := ⟨t, j, none⟩) h.lt hn).trans (h.free j)⟩
theorem Arr.mono {w : World} {t : Nat} {f g : Nat → Value} (h : Arr w t f) (e : ∀ j, j < 256 → f j = g j) : Arr w t g := ⟨h.lt, fun j hj => by rw [h.at_ j hj, e j hj], h.free⟩
theorem Arr.of (w : World) (u : Value) (ty : TypeId) : Arr (w.alloc (.cells (List.replicate 256 u).toArray ty)) w.heap.size (fun _ => u) := by
  have B := Bl.alloc w (List.replicate 256 u) ty
  exact ⟨B.lt, fun j hj => B.at_ j _ (by rw [List.getElem?_replicate, if_pos hj]), B.free⟩
/-- What came behind touched but these, and what is new. -/
theorem Kp.past {S T : List Nat} {w a c : World} (h : Kp S w a) (k : Kp T a c) (hT : ∀ x ∈ T, x ∈ S ∨ w.heap.size ≤ x) : Kp S w c :=
  ⟨k.os.trans h.os, k.tape.trans h.tape, k.output.trans h.output, Nat.le_trans h.size k.size, fun i hi hn => (k.block i (Nat.lt_of_lt_of_le hi h.size) (fun e => by
    rcases hT i e with q | q
    · exact hn q
    · omega)).trans (h.block i hi hn)⟩
theorem Mv.past {T : List Nat} {b : Nat} {w a c : World} (h : Mv b w a) (k : Kp T a c) (hb : b < w.heap.size) (hT : ∀ x ∈ T, w.heap.size ≤ x) : Mv b w c :=
  ⟨h.kp.past k (fun x hx => .inr (hT x hx)), fun j hj => (k.cell (p := ⟨b, j, none⟩) (Nat.lt_of_lt_of_le hb h.kp.size) (fun e => by have := hT b e; omega)).trans (h.same j hj)⟩

section
variable {w w' : World} {b k : Nat} {src : ByteArray}

end
end Go.Proofs.YtonnimbcekhbgaaGreatDoor

/- FNToFX. -/
namespace Go.Proofs.YtonnimbcekhbgaaGreatDoor
open Go.RowKit

/-- What a command that was read makes of what was read. -/
def CmdT (L : List Adr) (nt : Bool) (x : Nat) (R : Sst → List Value → Sst → List Value → Prop) (σ σ' : Sst) : Prop :=
  ∃ A c fs σ1 cv v, AdrsV fs (.slice A L.length c) L ∧ (∀ f ∈ σ.fs, f ∈ fs) ∧
    R { σ with ranges := if L.length = 2 then σ.ranges + 1 else σ.ranges, fs := fs } (cmdV (.slice A L.length c) (if L.length = 2 then σ.ranges else 0) nt x) σ1 cv ∧ σ' = { σ1 with vc := v, cs := σ1.cs ++ [cv] }

/-- What is asked of an operand. -/
structure OpR (R : Sst → List Value → Sst → List Value → Prop) : Prop where
  c3 : ∀ σ cv σ' cv', R σ cv σ' cv' → cv'[3]? = cv[3]?
  cs : ∀ σ cv σ' cv', R σ cv σ' cv' → σ'.cs.length = σ.cs.length
  ranges : ∀ σ cv σ' cv', R σ cv σ' cv' → σ'.ranges = σ.ranges
  small : ∀ σ cv σ' cv', R σ cv σ' cv' → ∀ N, Small σ N → Small σ' (N + 1)

theorem cmdT_grows {L : List Adr} {nt : Bool} {x : Nat} {R : Sst → List Value → Sst → List Value → Prop} (hR : OpR R) (σ σ' : Sst) (h : CmdT L nt x R σ σ') : σ'.cs.length = σ.cs.length + 1 ∧ σ'.ranges ≤ σ.ranges + 1 ∧ ∀ N, Small σ N → Small σ' (N + 1) := by
  obtain ⟨A, c, fs, σ1, cv, v, _, _, hr, rfl⟩ := h
  have h1 := hR.cs _ _ _ _ hr
  have h2 := hR.ranges _ _ _ _ hr
  refine ⟨?_, ?_, fun N hN => ?_⟩
  · show (σ1.cs ++ [cv]).length = _
    rw [List.length_append, h1]; rfl
  · show σ1.ranges ≤ _
    rw [h2]
    show (if L.length = 2 then σ.ranges + 1 else σ.ranges) ≤ _
    split <;> omega
  · have := hR.small _ _ _ _ hr N ⟨hN.ns, hN.bs, hN.gs⟩
    exact ⟨this.ns, this.bs, this.gs⟩

/-- A command at a place of a script, from the byte on. -/
structure CmdAt (src : ByteArray) (k e k5 f x : Nat) (L : List Adr) : Prop where
  adrs : ∃ k1 k3, AdrsOk src k k1 L ∧ saw src (blk src k1) 33 = false ∧ k3 = blk src k1 ∧ (∃ h : k3 < src.size, (src[k3]).toNat = x) ∧ k3 + 1 = e
  op : ∃ i, Instr.findNow (.int .u8) (.int .u8 x) (tabE 0 opsL) 0 = some (some (i, .func (.func f) #[] #[]))
  bare : x ≠ 125 ∧ x ≠ 58 ∧ x ≠ 123

theorem CmdAt.ok {w0 : World} {b : Nat} {src : ByteArray} {k e e' k5 f x : Nat} {L : List Adr} {R : Sst → List Value → Sst → List Value → Prop} (h : CmdAt src k e k5 f x L) (ho : OpOk w0 f b src e e' R) (hR : OpR R) (hce : Enters f) (hE : mayEnd src (blk src e') = true) (h5 : k5 = blk src e') : CmdOk w0 b src k k5 (CmdT L false x R) := by
  intro w σ hs hcs hrg hsm
  obtain ⟨k1, k3, hA, h33, h3, ⟨hk, hx⟩, he⟩ := h.adrs
  obtain ⟨i, hi⟩ := h.op
  obtain ⟨b1, b2, b3⟩ := h.bare
  refine (command_v hs hA (.inl ⟨rfl, h33, h3⟩) hk hx hi (fun q => by omega) (by rw [he]; exact ho) hce (fun _ _ _ _ q => ⟨hR.c3 _ _ _ _ q, hR.cs _ _ _ _ q⟩) (.inr ⟨b3, hE, h5⟩) hcs hrg hsm).mono ?_
  rintro r w' ⟨hr, A, c, fs, σ', cv', v', q1, q2, q3, q4⟩
  exact ⟨hr, _, ⟨A, c, fs, σ', cv', v', q1, q2, q3, rfl⟩, q4⟩

end Go.Proofs.YtonnimbcekhbgaaGreatDoor

/- The script's reader: y. -/
namespace Go.Proofs.YtonnimbcekhbgaaGreatDoor
open Go.RowKit

set_option maxHeartbeats 400000 in
theorem expect_v {w : World} {b k : Nat} {src : ByteArray} (x : Int) (hr : Cur w b src k) (h : saw src k x = true) :
    Calls Tryz.prog 110 #[.pointer (some ⟨b, 0, none⟩), .int .u8 x] w fun e w' => e = .returned (.tuple #[]) ∧ Cur w' b src (k + 1) ∧ Mv b w w' := by
  have H := hid (take_v x hr h)
  clear h
  go_enter Tryz.func110, Tryz.ntmps110
  go_wp2_with fail
  refine H.out.mono ?_
  rintro e w1 ⟨rfl, h1, m1⟩
  go_wp2_with fail
  go_end0
  exact ⟨rfl, h1, m1⟩

end Go.Proofs.YtonnimbcekhbgaaGreatDoor

/- KC. -/
namespace Go.Proofs.YtonnimbcekhbgaaGreatDoor
open Go.RowKit

section
variable {w0 w w' w2 : World} {mb sb db lo hi : Nat} {s s' : Mst} {σ : Sst}

/-- A command with two addresses. -/
structure Two (w : World) (ca co ap i kd n2 : Nat) : Prop where
  c0 : ∃ cap, w.cell? ⟨ca, co, none⟩ = some (.slice (some ⟨ap, 0, none⟩) 2 cap)
  c1 : w.cell? ⟨ca, co + 1, none⟩ = some (.int .i64 i)
  a4 : w.cell? ⟨ap, 4, none⟩ = some (.int .i64 kd)
  a5 : w.cell? ⟨ap, 5, none⟩ = some (.int .i64 n2)
theorem Two.keep {ca co ap i kd n2 : Nat} (h : Two w ca co ap i kd n2) (k : Kp [] w w') : Two w' ca co ap i kd n2 := by
  obtain ⟨cap, h0⟩ := h.c0
  exact ⟨⟨cap, (k.cell (World.block_lt_of_cell? _ _ h0) (by simp)).trans h0⟩, (k.cell (World.block_lt_of_cell? _ _ h.c1) (by simp)).trans h.c1, (k.cell (World.block_lt_of_cell? _ _ h.a4) (by simp)).trans h.a4, (k.cell (World.block_lt_of_cell? _ _ h.a5) (by simp)).trans h.a5⟩
end
end Go.Proofs.YtonnimbcekhbgaaGreatDoor
