/- What the claim needs of: HK. -/
import Derived.Test.YtonnimbcekhbgaaGreatDoorX45
import Derived.Test.YtonnimbcekhbgaaGreatDoorX46

/- HK. -/
namespace Go.Proofs.YtonnimbcekhbgaaGreatDoor
open Go.RowKit

section
variable {w0 w w' : World} {mb sb db lo hi : Nat} {σ : Sst} {p p1 p2 q : Pst}

/-- Nothing is wrong; lines must be known ahead. -/
structure U0 (p : Pst) : Prop where
  over : p.over = false
  err : p.err = 0
  status : p.status = 0
  ahead : p.ahead = true
  br : p.br = []
  out : p.out.length ≤ p.count

/-- Where the machine is. -/
structure MA (p : Pst) (wants : Value) (left : List UInt8) (e : Bool) (num : Nat) (sp H : List UInt8) (pc st : Nat) (o : List UInt8) (c : Nat) : Prop where
  u : U0 p
  wants : p.wants = wants
  left : p.left = ba left
  ended : p.ended = e
  number : p.number = num
  space : p.space = ba sp
  held : p.held = ba H
  pc : p.pc = pc
  steps : p.steps = st
  out : p.out = o
  count : p.count = c

def Rn (w0 : World) (mb sb db : Nat) (p q : Pst) : Prop := ∃ n, RunP w0 mb sb db n p q
theorem Rn.sup (ho : p.over = false) (hs : Sup w0 mb sb db p p1) (hl : Look w0 mb sb db p1 p2) (hr : Rn w0 mb sb db p2 q) : Rn w0 mb sb db p q := hr.elim fun _ h => ⟨_, .round ho hs hl h⟩
theorem Rn.on (ho : p.over = false) (hw : p.wants = .nilFunc) (hl : Look w0 mb sb db p p2) (hr : Rn w0 mb sb db p2 q) : Rn w0 mb sb db p q := Rn.sup ho (fun w s hM hp => by
  have := supplied_on hM (by rw [show s.wants = _ from congrArg Pst.wants hp]; exact hw)
  rw [hp] at this
  exact this) hl hr

section
variable {left L R sp H o : List UInt8} {e : Bool} {num pc st c : Nat} {wv : Value}
theorem MA.none (h : MA p wv left e num sp H pc st o c) : p.none = (e && decide (left = [])) := by
  show (p.ended && (p.left.toList == [])) = _
  rw [h.ended, h.left, ba_nil]

theorem su_more (h : MA p bwV (L ++ 10 :: R) false num sp H pc st o c) (hn : (10 : UInt8) ∉ L) (h1000 : L.length ≤ 1000) (hR : R.length ≤ 90000) (hne : R ≠ []) (hk : num ≤ 1000) : Sup w0 mb sb db p (p.line L R) ∧ MA (p.line L R) .nilFunc R false (num + 1) L H 0 0 o c := by
  refine ⟨fun w s hM hp => ?_, ⟨⟨h.u.over, h.u.err, h.u.status, h.u.ahead, h.u.br, h.u.out⟩, rfl, rfl, h.ended, by show p.number + 1 = _; rw [h.number], rfl, h.held, rfl, rfl, h.out, h.count⟩⟩
  have := supplied_yes (L := L) (R := R) hM ((congrArg Pst.wants hp).trans h.wants) (by rw [show s.number = p.number from congrArg Pst.number hp, h.number]; omega) (next_more hM ((congrArg Pst.left hp).trans h.left) hn h1000 hR hne ((congrArg Pst.ended hp).trans h.ended) ((congrArg Pst.ahead hp).trans h.u.ahead))
  rw [hp] at this
  exact this
theorem su_end (h : MA p bwV (L ++ 10 :: R) true num sp H pc st o c) (hn : (10 : UInt8) ∉ L) (h1000 : L.length ≤ 1000) (hR : R.length ≤ 90000) (hk : num ≤ 1000) : Sup w0 mb sb db p (p.line L R) ∧ MA (p.line L R) .nilFunc R true (num + 1) L H 0 0 o c := by
  refine ⟨fun w s hM hp => ?_, ⟨⟨h.u.over, h.u.err, h.u.status, h.u.ahead, h.u.br, h.u.out⟩, rfl, rfl, h.ended, by show p.number + 1 = _; rw [h.number], rfl, h.held, rfl, rfl, h.out, h.count⟩⟩
  have := supplied_yes (L := L) (R := R) hM ((congrArg Pst.wants hp).trans h.wants) (by rw [show s.number = p.number from congrArg Pst.number hp, h.number]; omega) (next_line hM ((congrArg Pst.left hp).trans h.left) hn h1000 hR (.inl ((congrArg Pst.ended hp).trans h.ended)))
  rw [hp] at this
  exact this
theorem sg_more (h : MA p gmV (L ++ 10 :: R) false num sp H pc st o c) (hn : (10 : UInt8) ∉ L) (h1000 : L.length ≤ 1000) (hR : R.length ≤ 90000) (hne : R ≠ []) (hk : num ≤ 1000) (hl : sp.length + 1 + L.length ≤ 4000) : Sup w0 mb sb db p (p.more sp L R) ∧ MA (p.more sp L R) .nilFunc R false (num + 1) (sp ++ 10 :: L) H pc st o c := by
  refine ⟨fun w s hM hp => ?_, ⟨⟨h.u.over, h.u.err, h.u.status, h.u.ahead, h.u.br, h.u.out⟩, rfl, rfl, h.ended, by show p.number + 1 = _; rw [h.number], rfl, h.held, h.pc, h.steps, h.out, h.count⟩⟩
  have := supplied_more (a := sp) (L := L) (R := R) hM ((congrArg Pst.wants hp).trans h.wants) (by rw [show s.number = p.number from congrArg Pst.number hp, h.number]; omega) ((congrArg Pst.space hp).trans h.space) hl (next_more hM ((congrArg Pst.left hp).trans h.left) hn h1000 hR hne ((congrArg Pst.ended hp).trans h.ended) ((congrArg Pst.ahead hp).trans h.u.ahead))
  rw [hp] at this
  exact this
theorem sg_end (h : MA p gmV (L ++ 10 :: R) true num sp H pc st o c) (hn : (10 : UInt8) ∉ L) (h1000 : L.length ≤ 1000) (hR : R.length ≤ 90000) (hk : num ≤ 1000) (hl : sp.length + 1 + L.length ≤ 4000) : Sup w0 mb sb db p (p.more sp L R) ∧ MA (p.more sp L R) .nilFunc R true (num + 1) (sp ++ 10 :: L) H pc st o c := by
  refine ⟨fun w s hM hp => ?_, ⟨⟨h.u.over, h.u.err, h.u.status, h.u.ahead, h.u.br, h.u.out⟩, rfl, rfl, h.ended, by show p.number + 1 = _; rw [h.number], rfl, h.held, h.pc, h.steps, h.out, h.count⟩⟩
  have := supplied_more (a := sp) (L := L) (R := R) hM ((congrArg Pst.wants hp).trans h.wants) (by rw [show s.number = p.number from congrArg Pst.number hp, h.number]; omega) ((congrArg Pst.space hp).trans h.space) hl (next_line hM ((congrArg Pst.left hp).trans h.left) hn h1000 hR (.inl ((congrArg Pst.ended hp).trans h.ended)))
  rw [hp] at this
  exact this
theorem dry_bw (h : MA p bwV (L ++ [10]) false num sp H pc st o c) (hn : (10 : UInt8) ∉ L) (h1000 : L.length ≤ 1000) : Rn w0 mb sb db p p := ⟨0, .dry h.u.over (fun w s hM hp => by
  have := supplied_no hM ((congrArg Pst.wants hp).trans h.wants) (next_wait hM ((congrArg Pst.left hp).trans h.left) hn h1000 ((congrArg Pst.ended hp).trans h.ended) ((congrArg Pst.ahead hp).trans h.u.ahead))
  rw [hp] at this
  exact this)⟩
theorem dry_gm (h : MA p gmV (L ++ [10]) false num sp H pc st o c) (hn : (10 : UInt8) ∉ L) (h1000 : L.length ≤ 1000) : Rn w0 mb sb db p p := ⟨0, .dry h.u.over (fun w s hM hp => by
  have := supplied_wait hM ((congrArg Pst.wants hp).trans h.wants) (next_wait hM ((congrArg Pst.left hp).trans h.left) hn h1000 ((congrArg Pst.ended hp).trans h.ended) ((congrArg Pst.ahead hp).trans h.u.ahead))
  rw [hp] at this
  exact this)⟩
theorem dry_end (h : MA p bwV [] true num sp H pc st o c) : Rn w0 mb sb db p p := ⟨0, .dry h.u.over (fun w s hM hp => by
  have := supplied_no hM ((congrArg Pst.wants hp).trans h.wants) (next_none hM ((congrArg Pst.left hp).trans h.left) (by simp) (by simp) (.inl ⟨(congrArg Pst.ended hp).trans h.ended, rfl⟩))
  rw [hp] at this
  exact this)⟩

theorem deed_G : Instr.findNow (.int .u8) (.int .u8 ((71 : Nat) : Int)) (tabE 0 deedsL) 0 = some (some (11, .func (.func 47) #[] #[])) := by kernel_rfl
theorem deed_hold : Instr.findNow (.int .u8) (.int .u8 ((104 : Nat) : Int)) (tabE 0 deedsL) 0 = some (some (12, .func (.func 48) #[] #[])) := by kernel_rfl
theorem deed_N : Instr.findNow (.int .u8) (.int .u8 ((78 : Nat) : Int)) (tabE 0 deedsL) 0 = some (some (16, .func (.func 52) #[] #[])) := by kernel_rfl
theorem deed_b : Instr.findNow (.int .u8) (.int .u8 ((98 : Nat) : Int)) (tabE 0 deedsL) 0 = some (some (1, .func (.func 37) #[] #[])) := by kernel_rfl
theorem deed_open : Instr.findNow (.int .u8) (.int .u8 ((123 : Nat) : Int)) (tabE 0 deedsL) 0 = some (some (0, .func (.func 36) #[] #[])) := by kernel_rfl
theorem enters_G : Enters 47 := by intro p q w; simp [go_sem]
theorem enters_hold : Enters 48 := by intro p q w; simp [go_sem]
theorem enters_N : Enters 52 := by intro p q w; simp [go_sem]
theorem enters_b : Enters 37 := by intro p q w; simp [go_sem]
theorem enters_enter : Enters 36 := by intro p q w; simp [go_sem]

theorem MA.on (h : MA p .nilFunc left e num sp H pc st o c) : MA p.on .nilFunc left e num sp H (pc + 1) (st + 1) o c := ⟨⟨h.u.over, h.u.err, h.u.status, h.u.ahead, h.u.br, h.u.out⟩, h.wants, h.left, h.ended, h.number, h.space, h.held, by show p.pc + 1 = _; rw [h.pc], by show p.steps + 1 = _; rw [h.steps], h.out, h.count⟩

/-- 1!G -/
theorem lkG {d : List Value} (hs : Scr lo hi w0 sb 0 σ) (h : MA p .nilFunc left e num sp H pc st o c) (hc : σ.cs[pc]? = some d) (hA : AtOne σ d 71 true (.num 1)) (hst : st < 2000) (hpc : pc < 2000) (hl : sp.length + 1 + H.length ≤ 4000) : ∃ p', Look w0 mb sb db p p' ∧ MA p' .nilFunc left e num (if num = 1 then sp else sp ++ 10 :: H) H (pc + 1) (st + 1) o c := by
  by_cases hn : num = 1
  · rw [if_pos hn]
    exact ⟨p.on, look_one_skip hs (by rw [h.pc]; exact hc) hA (by rw [h.steps]; exact hst) (by rw [h.pc]; exact hpc) deed_G (by show (p.number == 1) = true; rw [h.number, hn]; rfl) (by omega), h.on⟩
  · rw [if_neg hn]
    have m := h.on
    refine ⟨p.on.got sp H, look_one_do hs (by rw [h.pc]; exact hc) hA (by rw [h.steps]; exact hst) (by rw [h.pc]; exact hpc) enters_G deed_G (by show (p.number == 1) = false; rw [h.number]; simpa using hn) (fun w2 s2 g m2 e2 _ => ?_), ⟨⟨m.u.over, m.u.err, m.u.status, m.u.ahead, m.u.br, m.u.out⟩, m.wants, m.left, m.ended, m.number, rfl, m.held, m.pc, m.steps, m.out, m.count⟩⟩
    have := getBehind_v (cp := .pointer (some ⟨g, p.pc * 23, none⟩)) (a := sp) (b := H) m2 ((congrArg Pst.space e2).trans m.space) ((congrArg Pst.held e2).trans m.held) hl
    rw [e2] at this
    exact this
/-- h -/
theorem lkH {d : List Value} (hs : Scr lo hi w0 sb 0 σ) (h : MA p .nilFunc left e num sp H pc st o c) (hc : σ.cs[pc]? = some d) (hP : Plain d 104) (hst : st < 2000) (hpc : pc < 2000) : ∃ p', Look w0 mb sb db p p' ∧ MA p' .nilFunc left e num sp sp (pc + 1) (st + 1) o c := by
  have m := h.on
  refine ⟨p.on.holds, look_holds2 hs (by rw [h.pc]; exact hc) hP deed_hold (by rw [h.steps]; exact hst) (by rw [h.pc]; exact hpc) enters_hold (fun w2 s2 g _ m2 e2 _ => ?_), ⟨⟨m.u.over, m.u.err, m.u.status, m.u.ahead, m.u.br, m.u.out⟩, m.wants, m.left, m.ended, m.number, m.space, m.space, m.pc, m.steps, m.out, m.count⟩⟩
  have := hold_v (cp := .pointer (some ⟨g, p.pc * 23, none⟩)) m2
  rw [e2] at this
  exact this
/-- $!d, and it is not the last line. -/
theorem lkD {d : List Value} (hs : Scr lo hi w0 sb 0 σ) (h : MA p .nilFunc left e num sp H pc st o c) (hc : σ.cs[pc]? = some d) (hA : AtOne σ d 100 true .last) (hst : st < 2000) (hpc : pc < 2000) (hn : (e && decide (left = [])) = false) : ∃ p', Look w0 mb sb db p p' ∧ MA p' bwV left e num sp H (pc + 1) (st + 1) o c := by
  have m := h.on
  refine ⟨p.on.dropCycle, look_one_do hs (by rw [h.pc]; exact hc) hA (by rw [h.steps]; exact hst) (by rw [h.pc]; exact hpc) enters_d deed_d (by show p.none = false; rw [h.none]; exact hn) (fun w2 s2 g m2 e2 _ => ?_), ⟨⟨m.u.over, m.u.err, m.u.status, m.u.ahead, m.u.br, m.u.out⟩, rfl, m.left, m.ended, m.number, m.space, m.held, m.pc, m.steps, m.out, m.count⟩⟩
  have := drop_v (cp := .pointer (some ⟨g, p.pc * 23, none⟩)) m2 ((congrArg Pst.br e2).trans m.u.br)
  rw [e2] at this
  exact this
/-- $! .., and it is the last line. -/
theorem lkLast {d : List Value} {x i f : Nat} (hs : Scr lo hi w0 sb 0 σ) (h : MA p .nilFunc left e num sp H pc st o c) (hc : σ.cs[pc]? = some d) (hA : AtOne σ d x true .last) (hst : st < 2000) (hpc : pc < 2000) (ht : Instr.findNow (.int .u8) (.int .u8 x) (tabE 0 deedsL) 0 = some (some (i, .func (.func f) #[] #[]))) (hx : x ≠ 123) (hn : (e && decide (left = [])) = true) : ∃ p', Look w0 mb sb db p p' ∧ MA p' .nilFunc left e num sp H (pc + 1) (st + 1) o c :=
  ⟨p.on, look_one_skip hs (by rw [h.pc]; exact hc) hA (by rw [h.steps]; exact hst) (by rw [h.pc]; exact hpc) ht (by show p.none = true; rw [h.none]; exact hn) hx, h.on⟩
/-- N, with or without $! -/
theorem lkN {d : List Value} (hs : Scr lo hi w0 sb 0 σ) (h : MA p .nilFunc left e num sp H pc st o c) (hc : σ.cs[pc]? = some d) (hA : AtOne σ d 78 true .last ∨ Plain d 78) (hst : st < 2000) (hpc : pc < 2000) (hn : (e && decide (left = [])) = false) : ∃ p', Look w0 mb sb db p p' ∧ MA p' gmV left e num sp H (pc + 1) (st + 1) o c := by
  have m := h.on
  have key : ∀ w2 s2, Mac w0 w2 mb sb db s2 → s2.p = p.on → ∀ cp, Calls Tryz.prog 52 #[.pointer (some ⟨mb, 0, none⟩), cp] w2 fun r w' => r = .returned (.tuple #[]) ∧ Goes w0 mb sb db w2 s2 w' p.on.asks := fun w2 s2 m2 e2 cp => by
    have := nextBehind_v (cp := cp) m2 ((congrArg Pst.br e2).trans m.u.br) (by rw [e2, m.none]; exact hn)
    rw [e2] at this
    exact this
  refine ⟨p.on.asks, ?_, ⟨⟨m.u.over, m.u.err, m.u.status, m.u.ahead, m.u.br, m.u.out⟩, rfl, m.left, m.ended, m.number, m.space, m.held, m.pc, m.steps, m.out, m.count⟩⟩
  rcases hA with hA | hA
  · exact look_one_do hs (by rw [h.pc]; exact hc) hA (by rw [h.steps]; exact hst) (by rw [h.pc]; exact hpc) enters_N deed_N (by show p.none = false; rw [h.none]; exact hn) (fun w2 s2 g m2 e2 _ => key w2 s2 m2 e2 _)
  · exact look_holds2 hs (by rw [h.pc]; exact hc) hA deed_N (by rw [h.steps]; exact hst) (by rw [h.pc]; exact hpc) enters_N (fun w2 s2 g _ m2 e2 _ => key w2 s2 m2 e2 _)
/-- b -/
theorem lkB {d : List Value} {goal : Nat} (hs : Scr lo hi w0 sb 0 σ) (h : MA p .nilFunc left e num sp H pc st o c) (hc : σ.cs[pc]? = some d) (hP : Plain d 98) (h5 : d[5]? = some (.int .i64 (goal : Int))) (hst : st < 2000) (hpc : pc < 2000) : ∃ p', Look w0 mb sb db p p' ∧ MA p' .nilFunc left e num sp H goal (st + 1) o c := by
  have m := h.on
  refine ⟨p.on.goto goal, look_holds2 hs (by rw [h.pc]; exact hc) hP deed_b (by rw [h.steps]; exact hst) (by rw [h.pc]; exact hpc) enters_b (fun w2 s2 g _ m2 e2 hcell => ?_), ⟨⟨m.u.over, m.u.err, m.u.status, m.u.ahead, m.u.br, m.u.out⟩, m.wants, m.left, m.ended, m.number, m.space, m.held, rfl, m.steps, m.out, m.count⟩⟩
  have := branch_v m2 (hcell 5 _ h5)
  rw [e2] at this
  exact this
/-- $!{ -/
theorem lkOpen {d : List Value} (hs : Scr lo hi w0 sb 0 σ) (h : MA p .nilFunc left e num sp H pc st o c) (hc : σ.cs[pc]? = some d) (hA : AtOne σ d 123 true .last) (hst : st < 2000) (hpc : pc < 2000) (hn : (e && decide (left = [])) = false) : ∃ p', Look w0 mb sb db p p' ∧ MA p' .nilFunc left e num sp H (pc + 1) (st + 1) o c := by
  refine ⟨p.on, look_one_do hs (by rw [h.pc]; exact hc) hA (by rw [h.steps]; exact hst) (by rw [h.pc]; exact hpc) enters_enter deed_open (by show p.none = false; rw [h.none]; exact hn) (fun w2 s2 g m2 e2 _ => ?_), h.on⟩
  have := enter_v (cp := .pointer (some ⟨g, p.pc * 23, none⟩)) m2
  rw [e2] at this
  exact this
theorem lkJump {d : List Value} {goal : Nat} (hs : Scr lo hi w0 sb 0 σ) (h : MA p .nilFunc left e num sp H pc st o c) (hc : σ.cs[pc]? = some d) (hA : AtOne σ d 123 true .last) (h5 : d[5]? = some (.int .i64 (goal : Int))) (hst : st < 2000) (hpc : pc < 2000) (hn : (e && decide (left = [])) = true) : ∃ p', Look w0 mb sb db p p' ∧ MA p' .nilFunc left e num sp H goal (st + 1) o c := by
  have m := h.on
  exact ⟨p.on.goto goal, look_one_jump hs (by rw [h.pc]; exact hc) hA (by rw [h.steps]; exact hst) (by rw [h.pc]; exact hpc) deed_open (by show p.none = true; rw [h.none]; exact hn) h5, ⟨⟨m.u.over, m.u.err, m.u.status, m.u.ahead, m.u.br, m.u.out⟩, m.wants, m.left, m.ended, m.number, m.space, m.held, rfl, m.steps, m.out, m.count⟩⟩
/-- : and } -/
theorem lkBy {d : List Value} {x : Nat} (hs : Scr lo hi w0 sb 0 σ) (h : MA p .nilFunc left e num sp H pc st o c) (hc : σ.cs[pc]? = some d) (hx : d[3]? = some (.int .u8 x)) (hpc : pc < 2000) (ht : Instr.findNow (.int .u8) (.int .u8 x) (tabE 0 deedsL) 0 = some none) : ∃ p', Look w0 mb sb db p p' ∧ MA p' .nilFunc left e num sp H (pc + 1) st o c :=
  ⟨p.goto (p.pc + 1), look_by hs (by rw [h.pc]; exact hc) hx (by rw [h.pc]; exact hpc) ht, ⟨⟨h.u.over, h.u.err, h.u.status, h.u.ahead, h.u.br, h.u.out⟩, h.wants, h.left, h.ended, h.number, h.space, h.held, by show p.pc + 1 = _; rw [h.pc], h.steps, h.out, h.count⟩⟩
/-- s/\\n/c/ -/
theorem lkS {d : List Value} {x : UInt8} {g : Bool} (hs : Scr lo hi w0 sb 0 σ) (h : MA p .nilFunc left e num sp H pc st o c) (hc : σ.cs[pc]? = some d) (hS : IsS σ d (rowQ [10]) [x] [] g 0) (hst : st < 2000) (hpc : pc < 2000) (hl : sp.length ≤ 3900) : ∃ p', Look w0 mb sb db p p' ∧ MA p' .nilFunc left e num (repN x g sp) H (pc + 1) (st + 1) o c := by
  have m := h.on
  obtain ⟨ok, hB, hno, hlen⟩ := becomes_nl x g sp hl
  refine ⟨p.on.replaced (repN x g sp) ok, look_repl hs (by rw [h.pc]; exact hc) hS (by rw [h.steps]; exact hst) (by rw [h.pc]; exact hpc) h.space (by omega) hB, ?_⟩
  cases ok with
  | true => exact ⟨⟨m.u.over, m.u.err, m.u.status, m.u.ahead, m.u.br, m.u.out⟩, m.wants, m.left, m.ended, m.number, rfl, m.held, m.pc, m.steps, m.out, m.count⟩
  | false => rw [hno rfl]; exact m
/-- The script's end. -/
theorem lkEnd (hs : Scr lo hi w0 sb 0 σ) (hq : σ.quiet = false) (h : MA p .nilFunc left e num sp H pc st o c) (hpc : pc = σ.cs.length) (hl : c + sp.length + 1 ≤ 200000) : ∃ p', Look w0 mb sb db p p' ∧ MA p' bwV left e num sp H pc st (o ++ sp ++ [10]) (c + sp.length + 1) := by
  have hsz : p.space.size = sp.length := by rw [h.space, ba_size]
  have hd : p.space.data.toList = sp := by rw [h.space]; exact ba_list _
  refine ⟨p.endCycle σ.quiet, look_ends hs (by rw [h.pc]; exact hpc) (by rw [h.count, hsz]; exact hl) h.u.out h.u.br, ?_⟩
  rw [hq]
  have ho : p.out ++ p.space.data.toList ++ [10] = o ++ sp ++ [10] := by rw [h.out, hd]
  have hcn : p.count + p.space.size + 1 = c + sp.length + 1 := by rw [h.count, hsz]
  refine ⟨⟨h.u.over, h.u.err, h.u.status, h.u.ahead, h.u.br, ?_⟩, rfl, h.left, h.ended, h.number, h.space, h.held, h.pc, h.steps, ho, hcn⟩
  show (p.out ++ p.space.data.toList ++ [10]).length ≤ p.count + p.space.size + 1
  have := h.u.out
  rw [ho, hcn, ← h.out, ← h.count]
  simp; omega
end
end
end Go.Proofs.YtonnimbcekhbgaaGreatDoor
