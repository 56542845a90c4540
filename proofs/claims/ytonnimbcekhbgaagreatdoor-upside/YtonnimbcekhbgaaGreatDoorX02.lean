/- What the claim needs of: EDToEE. -/
import Derived.Test.YtonnimbcekhbgaaGreatDoorX01
import Derived.ChangeMaps5

/- EDToEE. -/
namespace Go.Proofs.YtonnimbcekhbgaaGreatDoor
open Go.RowKit

section
variable {w w' : World} {b k : Nat} {src : ByteArray}

/-- Is it a digit that stands at place k? -/
def isD (s : ByteArray) (k : Nat) : Bool := if h : k < s.size then decide (48 ≤ (s[k]).toNat) && decide ((s[k]).toNat ≤ 57) else false
theorem isD_lt {s : ByteArray} {k : Nat} (h : isD s k = true) : ∃ hk : k < s.size, 48 ≤ (s[k]'hk).toNat ∧ (s[k]'hk).toNat ≤ 57 := by
  unfold isD at h
  split at h
  · rename_i hk
    simp at h
    exact ⟨hk, h⟩
  · cases h

set_option maxHeartbeats 2000000 in
theorem digit_c (hr : Cur w b src k) {v : Bool} (h : isD src k = v) :
    Calls Tryz.prog 134 #[.pointer (some ⟨b, 0, none⟩)] w fun e w' => e = .returned (.bool v) ∧ Cur w' b src k ∧ Mv b w w' := by
  have c0 := hr.c0
  have c1 := hr.c1
  by_cases hk : k < src.size
  · have he : ((k : Int) == (src.size : Int)) = false := by simp; omega
    rw [isD, dif_pos hk] at h
    obtain ⟨y, hy⟩ : ∃ y : Nat, y = (src[k]).toNat := ⟨_, rfl⟩
    rw [← hy] at h
    have c5 : (⟨src.data⟩ : ByteArray)[k].toNat = y := hy.symm
    clear hy
    cases h5 : decide (48 ≤ y) <;> cases h6 : decide (y ≤ 57) <;> first
      | (exfalso; simp only [decide_eq_true_eq, decide_eq_false_iff_not] at h5 h6; omega)
      | (
        have g5 : decide ((48 : Int) ≤ (y : Int)) = _ := dec_nat h5
        have g6 : decide ((y : Int) ≤ 57) = _ := dec_nat h6
        rw [h5, h6] at h
        simp at h
        clear h5 h6
        subst h
        go_enter Tryz.func134, Tryz.ntmps134
        go_wp2
        go_quiet ((go_at_call 79; exact ended_c hr _))
        go_wp2
        go_ret
        exact ⟨rfl, hr.drewN _, Mv.drewN _ _ _⟩)
  · have he : ((k : Int) == (src.size : Int)) = true := by have := hr.le; simp; omega
    rw [isD, dif_neg hk] at h
    subst h
    go_enter Tryz.func134, Tryz.ntmps134
    go_wp2
    go_quiet ((go_at_call 79; exact ended_c hr _))
    go_wp2
    go_ret
    exact ⟨rfl, hr.drewN _, Mv.drewN _ _ _⟩

/-- A digit's number. -/
def dgt (s : ByteArray) (k : Nat) : Nat := if h : k < s.size then (s[k]).toNat - 48 else 0
/-- A number from place f on, of which v stands ahead of place k: the number, and where it ends. -/
def numN (s : ByteArray) (lo hi f : Nat) : Nat → Nat → Nat → Option (Nat × Nat)
  | 0, _, _ => none
  | n + 1, v, k => if isD s k then (if (v = 0 ∧ f < k) ∨ 10 * v + dgt s k < lo ∨ hi < 10 * v + dgt s k then none else numN s lo hi f n (10 * v + dgt s k) (k + 1)) else some (v, k)

set_option maxHeartbeats 4000000 in
theorem number_v {n lo hi x e : Nat} (hr : Cur w b src k) (hhi : hi ≤ 1000000) (h : numN src lo hi k n 0 k = some (x, e)) :
    Calls Tryz.prog 113 #[.pointer (some ⟨b, 0, none⟩), .int .i64 lo, .int .i64 hi] w fun r w' => r = .returned (.int .i64 x) ∧ Cur w' b src e ∧ Mv b w w' := by
  have hsm := hr.small
  have c1 := hr.c1
  have H := hid h
  clear h
  go_enter Tryz.func113, Tryz.ntmps113
  go_wp2_with fail
  clear c1
  go_loopw [7] (fun y wr => ∃ v a m : Nat, y = .int .i64 v ∧ v ≤ 1000000 ∧ k ≤ a ∧ Cur wr b src a ∧ Mv b w wr ∧ Hid (numN src lo hi k m v a = some (x, e))) (fun _ wr => 3000 - curAt wr b)
  case atStart => exact ⟨0, k, n, rfl, by omega, Nat.le_refl _, hr, Mv.refl _ _, H⟩
  case round =>
    obtain ⟨v, a, m, rfl, hv, hka, hrr, hmv, HB⟩ := hrel
    have HAT := hid (curAt_of hrr)
    match m, HB with
    | 0, HB => cases HB.out
    | m + 1, HB =>
    have hB := HB.out
    unfold numN at hB
    clear HB
    cases hd : isD src a
    · rw [hd, if_neg (by simp)] at hB
      injection hB with hB
      injection hB with hB1 hB2
      subst hB1 hB2
      go_wp2_with fail
      refine (digit_c hrr hd).mono ?_
      rintro r w2 ⟨rfl, h2, m2⟩
      go_wp2_with fail
      go_ret
      exact ⟨rfl, h2, hmv.trans m2⟩
    · rw [hd, if_pos rfl] at hB
      obtain ⟨hlt, hd1, hd2⟩ := isD_lt hd
      have hdg : dgt src a = (src[a]).toNat - 48 := by unfold dgt; rw [dif_pos hlt]
      obtain ⟨y, hy⟩ : ∃ y : Nat, y = (src[a]).toNat := ⟨_, rfl⟩
      have c5 : (⟨src.data⟩ : ByteArray)[a].toNat = y := hy.symm
      rw [← hy] at hdg hd1 hd2
      obtain ⟨d, hde⟩ : ∃ d : Nat, d = dgt src a := ⟨_, rfl⟩
      rw [← hde] at hB hdg
      split at hB
      · cases hB
      · rename_i hno
        have hn1 : ¬ (v = 0 ∧ k < a) := fun q => hno (.inl q)
        have hn2 : ¬ (10 * v + d < lo) := fun q => hno (.inr (.inl q))
        have hn3 : ¬ (hi < 10 * v + d) := fun q => hno (.inr (.inr q))
        obtain ⟨t, ht⟩ : ∃ t : Nat, t = 10 * v := ⟨_, rfl⟩
        obtain ⟨u, hu⟩ : ∃ u : Nat, u = 10 * v + d := ⟨_, rfl⟩
        have e1 : (10 : Int) * (v : Int) = (t : Int) := by omega
        have e2 : (y : Int) - 48 = (d : Int) := by omega
        have e3 : (t : Int) + (d : Int) = (u : Int) := by omega
        have q1 := wrap_i64_nat t (by omega)
        have q2 : IntKind.u8.wrap (d : Int) = (d : Int) := by rw [IntKind.wrap_u8]; omega
        have q4 := wrap_i64_nat d (by omega)
        have q3 := wrap_i64_nat u (by omega)
        have g2 : ¬ u < lo := by omega
        have g3 : ¬ hi < u := by omega
        rw [← hu] at hB
        have HB2 := hid hB
        have HU : Hid (u ≤ 1000000) := hid (by omega)
        have HD : Hid _ := hd
        by_cases hv0 : v = 0
        · have hka2 : a = k := by omega
          have hud : u = d := by omega
          clear hB hn2 hn3 hno hde hdg ht hu hy
          subst hka2
          subst hv0
          subst hud
          go_wp2_with fail
          refine (digit_c hrr HD.out).mono ?_
          rintro r w2 ⟨rfl, h2, m2⟩
          have c0 := h2.c0
          have c1 := h2.c1
          have f1 := h2.free 1
          go_wp2_with fail
          go_quiet (fail)
          go_wp2_with fail
          go_round
          case rel => exact ⟨u, a + 1, m, rfl, HU.out, by omega, (h2.drewN _).step hlt, hmv.trans (m2.trans ((Mv.drewN _ _ _).trans (Mv.step _ _ _))), HB2⟩
          case measure => rw [curAt_of ((h2.drewN _).step hlt), HAT.out]; omega
        · have g0 : ((v : Int) == 0) = false := by rw [beq_eq_false_iff_ne]; omega
          clear hB hn2 hn3 hno hde hdg ht hu hy
          go_wp2_with fail
          refine (digit_c hrr HD.out).mono ?_
          rintro r w2 ⟨rfl, h2, m2⟩
          have c0 := h2.c0
          have c1 := h2.c1
          have f1 := h2.free 1
          go_wp2_with fail
          go_quiet (fail)
          go_wp2_with fail
          go_round
          case rel => exact ⟨u, a + 1, m, rfl, HU.out, by omega, (h2.drewN _).step hlt, hmv.trans (m2.trans ((Mv.drewN _ _ _).trans (Mv.step _ _ _))), HB2⟩
          case measure => rw [curAt_of ((h2.drewN _).step hlt), HAT.out]; omega

/-- Where an address begins. -/
def isA (s : ByteArray) (k : Nat) : Bool := isD s k || saw s k 36 || saw s k 47

set_option maxHeartbeats 1000000 in
theorem seesAddress_v (hr : Cur w b src k) {v : Bool} (h : isA src k = v) :
    Calls Tryz.prog 135 #[.pointer (some ⟨b, 0, none⟩)] w fun e w' => e = .returned (.bool v) ∧ Cur w' b src k ∧ Mv b w w' := by
  cases hd : isD src k
  · cases h36 : saw src k 36
    · have h47 : saw src k 47 = v := by rw [← h]; simp [isA, hd, h36]
      go_enter Tryz.func135, Tryz.ntmps135
      go_wp2_with fail
      refine (digit_c hr hd).mono ?_
      rintro r w1 ⟨rfl, h1, m1⟩
      go_wp2_with fail
      refine (sees_v 36 h1 h36).mono ?_
      rintro r w2 ⟨rfl, h2, m2⟩
      go_wp2_with fail
      refine (sees_v 47 h2 h47).mono ?_
      rintro r w3 ⟨rfl, h3, m3⟩
      cases v <;> (go_wp2_with fail; go_ret; exact ⟨rfl, h3, m1.trans (m2.trans m3)⟩)
    · obtain rfl : v = true := by rw [← h]; simp [isA, h36]
      go_enter Tryz.func135, Tryz.ntmps135
      go_wp2_with fail
      refine (digit_c hr hd).mono ?_
      rintro r w1 ⟨rfl, h1, m1⟩
      go_wp2_with fail
      refine (sees_v 36 h1 h36).mono ?_
      rintro r w2 ⟨rfl, h2, m2⟩
      go_wp2_with fail
      go_ret
      exact ⟨rfl, h2, m1.trans m2⟩
  · obtain rfl : v = true := by rw [← h]; simp [isA, hd]
    go_enter Tryz.func135, Tryz.ntmps135
    go_wp2_with fail
    refine (digit_c hr hd).mono ?_
    rintro r w1 ⟨rfl, h1, m1⟩
    go_wp2_with fail
    go_ret
    exact ⟨rfl, h1, m1⟩

/-- May a command end here? -/
def mayEnd (s : ByteArray) (k : Nat) : Bool := decide (k = s.size) || saw s k 10 || saw s k 59 || saw s k 35 || saw s k 125

set_option maxHeartbeats 2000000 in
theorem end_v (hr : Cur w b src k) (h : mayEnd src (blk src k) = true) :
    Calls Tryz.prog 120 #[.pointer (some ⟨b, 0, none⟩)] w fun r w' => r = .returned (.tuple #[]) ∧ Cur w' b src (blk src k) ∧ Mv b w w' := by
  obtain ⟨f, hf⟩ : ∃ f, f = blk src k := ⟨_, rfl⟩
  rw [← hf] at h ⊢
  have HF := hid hf
  clear hf
  go_enter Tryz.func120, Tryz.ntmps120
  go_wp2_with fail
  refine (blanks_v hr).mono ?_
  rintro r w1 ⟨rfl, h1, m1⟩
  rw [← HF.out] at h1
  have hle := h1.le
  by_cases hx : f = src.size
  · have he : ((f : Int) == (src.size : Int)) = true := by simp; omega
    go_wp2_with fail
    refine (ended_v h1 he).mono ?_
    rintro r w2 ⟨rfl, h2, m2⟩
    go_wp2_with fail
    go_end0
    exact ⟨rfl, h2, m1.trans m2⟩
  · have he : ((f : Int) == (src.size : Int)) = false := by simp; omega
    rw [mayEnd, decide_eq_false hx] at h
    clear hx
    cases h10 : saw src f 10
    · cases h59 : saw src f 59
      · cases h35 : saw src f 35
        · have h125 : saw src f 125 = true := by rw [h10, h59, h35] at h; simpa using h
          go_wp2_with fail
          refine (ended_v h1 he).mono ?_
          rintro r w2 ⟨rfl, h2, m2⟩
          go_wp2_with fail
          refine (sees_v 10 h2 h10).mono ?_
          rintro r w3 ⟨rfl, h3, m3⟩
          go_wp2_with fail
          refine (sees_v 59 h3 h59).mono ?_
          rintro r w4 ⟨rfl, h4, m4⟩
          go_wp2_with fail
          refine (sees_v 35 h4 h35).mono ?_
          rintro r w5 ⟨rfl, h5, m5⟩
          go_wp2_with fail
          refine (sees_v 125 h5 h125).mono ?_
          rintro r w6 ⟨rfl, h6, m6⟩
          go_wp2_with fail
          go_end0
          exact ⟨rfl, h6, m1.trans (m2.trans (m3.trans (m4.trans (m5.trans m6))))⟩
        · go_wp2_with fail
          refine (ended_v h1 he).mono ?_
          rintro r w2 ⟨rfl, h2, m2⟩
          go_wp2_with fail
          refine (sees_v 10 h2 h10).mono ?_
          rintro r w3 ⟨rfl, h3, m3⟩
          go_wp2_with fail
          refine (sees_v 59 h3 h59).mono ?_
          rintro r w4 ⟨rfl, h4, m4⟩
          go_wp2_with fail
          refine (sees_v 35 h4 h35).mono ?_
          rintro r w5 ⟨rfl, h5, m5⟩
          go_wp2_with fail
          go_end0
          exact ⟨rfl, h5, m1.trans (m2.trans (m3.trans (m4.trans m5)))⟩
      · go_wp2_with fail
        refine (ended_v h1 he).mono ?_
        rintro r w2 ⟨rfl, h2, m2⟩
        go_wp2_with fail
        refine (sees_v 10 h2 h10).mono ?_
        rintro r w3 ⟨rfl, h3, m3⟩
        go_wp2_with fail
        refine (sees_v 59 h3 h59).mono ?_
        rintro r w4 ⟨rfl, h4, m4⟩
        go_wp2_with fail
        go_end0
        exact ⟨rfl, h4, m1.trans (m2.trans (m3.trans m4))⟩
    · go_wp2_with fail
      refine (ended_v h1 he).mono ?_
      rintro r w2 ⟨rfl, h2, m2⟩
      go_wp2_with fail
      refine (sees_v 10 h2 h10).mono ?_
      rintro r w3 ⟨rfl, h3, m3⟩
      go_wp2_with fail
      go_end0
      exact ⟨rfl, h3, m1.trans (m2.trans m3)⟩
end
end Go.Proofs.YtonnimbcekhbgaaGreatDoor

/- The tables of the commands: maps from a byte to a function. -/
namespace Go.Proofs.YtonnimbcekhbgaaGreatDoor
open Go.RowKit Go.MapKept

section
variable {P : Program} {w : World} {t k e : TypeId} {b c : Nat} {es : Array MapEntry} {x : Int} {v : Value}

theorem Kp.setBlock (w : World) (b : Nat) (o : Obj) : Kp [b] w (ChangeMaps.setBlock w b o) :=
  ⟨rfl, rfl, rfl, by simp [ChangeMaps.setBlock], fun j hj hn => by
    simp only [ChangeMaps.setBlock]
    rw [Array.getElem?_setIfInBounds_ne (by simpa using fun e : b = j => hn (by simp [e]))]⟩

theorem run_putB (ht : P.underlying t = some (.map k e)) (hk : P.underlying k = some (.int .u8)) (hb : w.heap[b]? = some (.map es c)) (hf : Instr.findNow (.int .u8) (.int .u8 x) es.toList 0 = some none) :
    (Instr.mapUpdate t (.map (some b)) (.int .u8 x) v).run P w = .ok () (ChangeMaps.setBlock w b (.map (es.push ⟨.int .u8 x, v, c⟩) (c + 1))) := by
  have hkey : IsKey (.int .u8) (.int .u8 x) := by simp [IsKey]
  simp [Instr.mapUpdate, run_underlying ht, MapKept.run_getObj_map hb, run_checkKey hk hkey, run_findKey hk hf, MapKept.run_setObj_map _ hb, Result.andThen, ChangeMaps.setBlock]

theorem wpList_putB {ops : Array Oper} {rest : List Oper} {o : Oper} {a : Act} {Q : Exit → Act → World → Prop} (hg : o.guard = none) (s kk vv : Operand) (t : TypeId) (hop : o.op = Op.insert t s kk vv)
    (k e : TypeId) (ht : P.underlying t = some (.map k e)) (hk : P.underlying k = some (.int .u8)) (b : Nat) (es : Array MapEntry) (c : Nat) (x : Int) (hs : a.eval s = .map (some b)) (hx : a.eval kk = .int .u8 x)
    (hb : w.heap[b]? = some (.map es c)) (hf : Instr.findNow (.int .u8) (.int .u8 x) es.toList 0 = some none)
    (h : ∀ w', w'.heap[b]? = some (.map (es.push ⟨.int .u8 x, a.eval vv, c⟩) (c + 1)) → Kp [b] w w' → wpList P ops Q rest (a.put o.dst undef) w') : wpList P ops Q (o :: rest) a w :=
  wpList_plain hg fun _ hK => by
    have hl : b < w.heap.size := (Array.getElem?_eq_some_iff.1 hb).1
    have := run_putB (v := a.eval vv) ht hk hb hf
    unfold Oper.wp
    simp [execOp, hop, hs, hx, this, Result.andThen]
    refine hK _ _ (h _ ?_ (Kp.setBlock _ _ _))
    simp [ChangeMaps.setBlock, hl]

theorem wpList_makeMap {ops : Array Oper} {rest : List Oper} {o : Oper} {a : Act} {Q : Exit → Act → World → Prop} (hg : o.guard = none) (t : TypeId) (hop : o.op = Op.makeMap t none)
    (h : wpList P ops Q rest (a.put o.dst (.map (some w.heap.size))) (w.alloc (.map #[] 0))) : wpList P ops Q (o :: rest) a w :=
  wpList_plain hg fun _ hK => by
    unfold Oper.wp
    simp [execOp, hop, Instr.makeMap, newObj, Sem.run, Result.andThen]
    exact hK _ _ h
end

/-- The entries of the table. -/
def tabE : Nat → List (Nat × Nat) → List MapEntry
  | _, [] => []
  | c, (x, f) :: l => ⟨.int .u8 x, .func (.func f) #[] #[], c⟩ :: tabE (c + 1) l
def tabO (l : List (Nat × Nat)) : Obj := .map (tabE 0 l).toArray l.length
abbrev opsL : List (Nat × Nat) := [(123, 67), (125, 68), (58, 69), (98, 70), (116, 70), (97, 71), (105, 71), (99, 71), (115, 72), (121, 73), (113, 74), (119, 75), (100, 76), (68, 76), (103, 76), (71, 76), (104, 76), (72, 76), (120, 76), (110, 76), (78, 76), (112, 76), (80, 76), (108, 76), (61, 76)]
abbrev deedsL : List (Nat × Nat) := [(123, 36), (98, 37), (116, 38), (97, 39), (105, 40), (99, 41), (115, 42), (121, 43), (100, 44), (68, 45), (103, 46), (71, 47), (104, 48), (72, 49), (120, 50), (110, 51), (78, 52), (112, 53), (80, 54), (108, 55), (61, 56), (113, 57), (119, 58)]

set_option maxRecDepth 100000 in
set_option maxHeartbeats 4000000 in
theorem operands_any (w : World) : Calls Tryz.prog 34 #[] w fun e w' => e = .returned (.map (some w.heap.size)) ∧ w'.heap[w.heap.size]? = some (tabO opsL) ∧ Kp [] w w' := by
  have hb : (w.alloc (.map #[] 0)).heap[w.heap.size]? = some (.map #[] 0) := by show (w.heap.push _)[w.heap.size]? = _; simp
  have hkk : Kp [w.heap.size] w (w.alloc (.map #[] 0)) := Kp.alloc _ _ _
  go_enter Tryz.func34, Tryz.ntmps34
  go_wp2_with (first | (refine wpList_makeMap rfl 78 rfl ?_) | (refine wpList_putB rfl _ _ _ 78 rfl 5 102 Tryz.underlying78 Tryz.underlying5 w.heap.size _ _ _ rfl rfl hb (by kernel_rfl) ?_; clear hb; intro w1 hb hk; have hkk := hkk.trans hk; clear hk))
  go_ret
  exact ⟨rfl, hb.trans (by kernel_rfl), hkk.own (Nat.le_refl _)⟩
set_option maxRecDepth 100000 in
set_option maxHeartbeats 4000000 in
theorem deeds_any (w : World) : Calls Tryz.prog 27 #[] w fun e w' => e = .returned (.map (some w.heap.size)) ∧ w'.heap[w.heap.size]? = some (tabO deedsL) ∧ Kp [] w w' := by
  have hb : (w.alloc (.map #[] 0)).heap[w.heap.size]? = some (.map #[] 0) := by show (w.heap.push _)[w.heap.size]? = _; simp
  have hkk : Kp [w.heap.size] w (w.alloc (.map #[] 0)) := Kp.alloc _ _ _
  go_enter Tryz.func27, Tryz.ntmps27
  go_wp2_with (first | (refine wpList_makeMap rfl 61 rfl ?_) | (refine wpList_putB rfl _ _ _ 61 rfl 5 84 Tryz.underlying61 Tryz.underlying5 w.heap.size _ _ _ rfl rfl hb (by kernel_rfl) ?_; clear hb; intro w1 hb hk; have hkk := hkk.trans hk; clear hk))
  go_ret
  exact ⟨rfl, hb.trans (by kernel_rfl), hkk.own (Nat.le_refl _)⟩
end Go.Proofs.YtonnimbcekhbgaaGreatDoor
