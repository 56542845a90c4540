/- The script's reader: numbers, where an address begins, where a command ends. -/
import Derived.Test.YtonnimbcekhbgaaGreatDoorEBToEC
namespace Go.Proofs.YtonnimbcekhbgaaGreatDoor
open Go.RowKit

section
variable {w w' : World} {b k : Nat} {src : ByteArray}

/-- Is it a digit that stands at place k? -/
def isD (s : ByteArray) (k : Nat) : Bool := if h : k < s.size then decide (48 ≤ (s[k]).toNat) && decide ((s[k]).toNat ≤ 57) else false
theorem isD_lt {s : ByteArray} {k : Nat} (h : isD s k = true) : ∃ hk : k < s.size, 48 ≤ (s[k]'hk).toNat ∧ (s[k]'hk).toNat ≤ 57 := by
  unfold isD at h
  split at h
  · rename_i hk
    simp at h
    exact ⟨hk, h⟩
  · cases h

set_option maxHeartbeats 2000000 in
theorem digit_c (hr : Cur w b src k) {v : Bool} (h : isD src k = v) :
    Calls Tryz.prog 134 #[.pointer (some ⟨b, 0, none⟩)] w fun e w' => e = .returned (.bool v) ∧ Cur w' b src k ∧ Mv b w w' := by
  have c0 := hr.c0
  have c1 := hr.c1
  by_cases hk : k < src.size
  · have he : ((k : Int) == (src.size : Int)) = false := by simp; omega
    rw [isD, dif_pos hk] at h
    obtain ⟨y, hy⟩ : ∃ y : Nat, y = (src[k]).toNat := ⟨_, rfl⟩
    rw [← hy] at h
    have c5 : (⟨src.data⟩ : ByteArray)[k].toNat = y := hy.symm
    clear hy
    cases h5 : decide (48 ≤ y) <;> cases h6 : decide (y ≤ 57) <;> first
      | (exfalso; simp only [decide_eq_true_eq, decide_eq_false_iff_not] at h5 h6; omega)
      | (
        have g5 : decide ((48 : Int) ≤ (y : Int)) = _ := dec_nat h5
        have g6 : decide ((y : Int) ≤ 57) = _ := dec_nat h6
        rw [h5, h6] at h
        simp at h
        clear h5 h6
        subst h
        go_enter Tryz.func134, Tryz.ntmps134
        go_wp2
        go_quiet ((go_at_call 79; exact ended_c hr _))
        go_wp2
        go_ret
        exact ⟨rfl, hr.drewN _, Mv.drewN _ _ _⟩)
  · have he : ((k : Int) == (src.size : Int)) = true := by have := hr.le; simp; omega
    rw [isD, dif_neg hk] at h
    subst h
    go_enter Tryz.func134, Tryz.ntmps134
    go_wp2
    go_quiet ((go_at_call 79; exact ended_c hr _))
    go_wp2
    go_ret
    exact ⟨rfl, hr.drewN _, Mv.drewN _ _ _⟩

/-- A digit's number. -/
def dgt (s : ByteArray) (k : Nat) : Nat := if h : k < s.size then (s[k]).toNat - 48 else 0
/-- A number from place f on, of which v stands ahead of place k: the number, and where it ends. -/
def numN (s : ByteArray) (lo hi f : Nat) : Nat → Nat → Nat → Option (Nat × Nat)
  | 0, _, _ => none
  | n + 1, v, k => if isD s k then (if (v = 0 ∧ f < k) ∨ 10 * v + dgt s k < lo ∨ hi < 10 * v + dgt s k then none else numN s lo hi f n (10 * v + dgt s k) (k + 1)) else some (v, k)

set_option maxHeartbeats 4000000 in
theorem number_v {n lo hi x e : Nat} (hr : Cur w b src k) (hhi : hi ≤ 1000000) (h : numN src lo hi k n 0 k = some (x, e)) :
    Calls Tryz.prog 113 #[.pointer (some ⟨b, 0, none⟩), .int .i64 lo, .int .i64 hi] w fun r w' => r = .returned (.int .i64 x) ∧ Cur w' b src e ∧ Mv b w w' := by
  have hsm := hr.small
  have c1 := hr.c1
  have H := hid h
  clear h
  go_enter Tryz.func113, Tryz.ntmps113
  go_wp2_with fail
  clear c1
  go_loopw [7] (fun y wr => ∃ v a m : Nat, y = .int .i64 v ∧ v ≤ 1000000 ∧ k ≤ a ∧ Cur wr b src a ∧ Mv b w wr ∧ Hid (numN src lo hi k m v a = some (x, e))) (fun _ wr => 3000 - curAt wr b)
  case atStart => exact ⟨0, k, n, rfl, by omega, Nat.le_refl _, hr, Mv.refl _ _, H⟩
  case round =>
    obtain ⟨v, a, m, rfl, hv, hka, hrr, hmv, HB⟩ := hrel
    have HAT := hid (curAt_of hrr)
    match m, HB with
    | 0, HB => cases HB.out
    | m + 1, HB =>
    have hB := HB.out
    unfold numN at hB
    clear HB
    cases hd : isD src a
    · rw [hd, if_neg (by simp)] at hB
      injection hB with hB
      injection hB with hB1 hB2
      subst hB1 hB2
      go_wp2_with fail
      refine (digit_c hrr hd).mono ?_
      rintro r w2 ⟨rfl, h2, m2⟩
      go_wp2_with fail
      go_ret
      exact ⟨rfl, h2, hmv.trans m2⟩
    · rw [hd, if_pos rfl] at hB
      obtain ⟨hlt, hd1, hd2⟩ := isD_lt hd
      have hdg : dgt src a = (src[a]).toNat - 48 := by unfold dgt; rw [dif_pos hlt]
      obtain ⟨y, hy⟩ : ∃ y : Nat, y = (src[a]).toNat := ⟨_, rfl⟩
      have c5 : (⟨src.data⟩ : ByteArray)[a].toNat = y := hy.symm
      rw [← hy] at hdg hd1 hd2
      obtain ⟨d, hde⟩ : ∃ d : Nat, d = dgt src a := ⟨_, rfl⟩
      rw [← hde] at hB hdg
      split at hB
      · cases hB
      · rename_i hno
        have hn1 : ¬ (v = 0 ∧ k < a) := fun q => hno (.inl q)
        have hn2 : ¬ (10 * v + d < lo) := fun q => hno (.inr (.inl q))
        have hn3 : ¬ (hi < 10 * v + d) := fun q => hno (.inr (.inr q))
        obtain ⟨t, ht⟩ : ∃ t : Nat, t = 10 * v := ⟨_, rfl⟩
        obtain ⟨u, hu⟩ : ∃ u : Nat, u = 10 * v + d := ⟨_, rfl⟩
        have e1 : (10 : Int) * (v : Int) = (t : Int) := by omega
        have e2 : (y : Int) - 48 = (d : Int) := by omega
        have e3 : (t : Int) + (d : Int) = (u : Int) := by omega
        have q1 := wrap_i64_nat t (by omega)
        have q2 : IntKind.u8.wrap (d : Int) = (d : Int) := by rw [IntKind.wrap_u8]; omega
        have q4 := wrap_i64_nat d (by omega)
        have q3 := wrap_i64_nat u (by omega)
        have g2 : ¬ u < lo := by omega
        have g3 : ¬ hi < u := by omega
        rw [← hu] at hB
        have HB2 := hid hB
        have HU : Hid (u ≤ 1000000) := hid (by omega)
        have HD : Hid _ := hd
        by_cases hv0 : v = 0
        · have hka2 : a = k := by omega
          have hud : u = d := by omega
          clear hB hn2 hn3 hno hde hdg ht hu hy
          subst hka2
          subst hv0
          subst hud
          go_wp2_with fail
          refine (digit_c hrr HD.out).mono ?_
          rintro r w2 ⟨rfl, h2, m2⟩
          have c0 := h2.c0
          have c1 := h2.c1
          have f1 := h2.free 1
          go_wp2_with fail
          go_quiet (fail)
          go_wp2_with fail
          go_round
          case rel => exact ⟨u, a + 1, m, rfl, HU.out, by omega, (h2.drewN _).step hlt, hmv.trans (m2.trans ((Mv.drewN _ _ _).trans (Mv.step _ _ _))), HB2⟩
          case measure => rw [curAt_of ((h2.drewN _).step hlt), HAT.out]; omega
        · have g0 : ((v : Int) == 0) = false := by rw [beq_eq_false_iff_ne]; omega
          clear hB hn2 hn3 hno hde hdg ht hu hy
          go_wp2_with fail
          refine (digit_c hrr HD.out).mono ?_
          rintro r w2 ⟨rfl, h2, m2⟩
          have c0 := h2.c0
          have c1 := h2.c1
          have f1 := h2.free 1
          go_wp2_with fail
          go_quiet (fail)
          go_wp2_with fail
          go_round
          case rel => exact ⟨u, a + 1, m, rfl, HU.out, by omega, (h2.drewN _).step hlt, hmv.trans (m2.trans ((Mv.drewN _ _ _).trans (Mv.step _ _ _))), HB2⟩
          case measure => rw [curAt_of ((h2.drewN _).step hlt), HAT.out]; omega

/-- Where an address begins. -/
def isA (s : ByteArray) (k : Nat) : Bool := isD s k || saw s k 36 || saw s k 47

set_option maxHeartbeats 1000000 in
theorem seesAddress_v (hr : Cur w b src k) {v : Bool} (h : isA src k = v) :
    Calls Tryz.prog 135 #[.pointer (some ⟨b, 0, none⟩)] w fun e w' => e = .returned (.bool v) ∧ Cur w' b src k ∧ Mv b w w' := by
  cases hd : isD src k
  · cases h36 : saw src k 36
    · have h47 : saw src k 47 = v := by rw [← h]; simp [isA, hd, h36]
      go_enter Tryz.func135, Tryz.ntmps135
      go_wp2_with fail
      refine (digit_c hr hd).mono ?_
      rintro r w1 ⟨rfl, h1, m1⟩
      go_wp2_with fail
      refine (sees_v 36 h1 h36).mono ?_
      rintro r w2 ⟨rfl, h2, m2⟩
      go_wp2_with fail
      refine (sees_v 47 h2 h47).mono ?_
      rintro r w3 ⟨rfl, h3, m3⟩
      cases v <;> (go_wp2_with fail; go_ret; exact ⟨rfl, h3, m1.trans (m2.trans m3)⟩)
    · obtain rfl : v = true := by rw [← h]; simp [isA, h36]
      go_enter Tryz.func135, Tryz.ntmps135
      go_wp2_with fail
      refine (digit_c hr hd).mono ?_
      rintro r w1 ⟨rfl, h1, m1⟩
      go_wp2_with fail
      refine (sees_v 36 h1 h36).mono ?_
      rintro r w2 ⟨rfl, h2, m2⟩
      go_wp2_with fail
      go_ret
      exact ⟨rfl, h2, m1.trans m2⟩
  · obtain rfl : v = true := by rw [← h]; simp [isA, hd]
    go_enter Tryz.func135, Tryz.ntmps135
    go_wp2_with fail
    refine (digit_c hr hd).mono ?_
    rintro r w1 ⟨rfl, h1, m1⟩
    go_wp2_with fail
    go_ret
    exact ⟨rfl, h1, m1⟩

/-- May a command end here? -/
def mayEnd (s : ByteArray) (k : Nat) : Bool := decide (k = s.size) || saw s k 10 || saw s k 59 || saw s k 35 || saw s k 125

set_option maxHeartbeats 2000000 in
theorem end_v (hr : Cur w b src k) (h : mayEnd src (blk src k) = true) :
    Calls Tryz.prog 120 #[.pointer (some ⟨b, 0, none⟩)] w fun r w' => r = .returned (.tuple #[]) ∧ Cur w' b src (blk src k) ∧ Mv b w w' := by
  obtain ⟨f, hf⟩ : ∃ f, f = blk src k := ⟨_, rfl⟩
  rw [← hf] at h ⊢
  have HF := hid hf
  clear hf
  go_enter Tryz.func120, Tryz.ntmps120
  go_wp2_with fail
  refine (blanks_v hr).mono ?_
  rintro r w1 ⟨rfl, h1, m1⟩
  rw [← HF.out] at h1
  have hle := h1.le
  by_cases hx : f = src.size
  · have he : ((f : Int) == (src.size : Int)) = true := by simp; omega
    go_wp2_with fail
    refine (ended_v h1 he).mono ?_
    rintro r w2 ⟨rfl, h2, m2⟩
    go_wp2_with fail
    go_end0
    exact ⟨rfl, h2, m1.trans m2⟩
  · have he : ((f : Int) == (src.size : Int)) = false := by simp; omega
    rw [mayEnd, decide_eq_false hx] at h
    clear hx
    cases h10 : saw src f 10
    · cases h59 : saw src f 59
      · cases h35 : saw src f 35
        · have h125 : saw src f 125 = true := by rw [h10, h59, h35] at h; simpa using h
          go_wp2_with fail
          refine (ended_v h1 he).mono ?_
          rintro r w2 ⟨rfl, h2, m2⟩
          go_wp2_with fail
          refine (sees_v 10 h2 h10).mono ?_
          rintro r w3 ⟨rfl, h3, m3⟩
          go_wp2_with fail
          refine (sees_v 59 h3 h59).mono ?_
          rintro r w4 ⟨rfl, h4, m4⟩
          go_wp2_with fail
          refine (sees_v 35 h4 h35).mono ?_
          rintro r w5 ⟨rfl, h5, m5⟩
          go_wp2_with fail
          refine (sees_v 125 h5 h125).mono ?_
          rintro r w6 ⟨rfl, h6, m6⟩
          go_wp2_with fail
          go_end0
          exact ⟨rfl, h6, m1.trans (m2.trans (m3.trans (m4.trans (m5.trans m6))))⟩
        · go_wp2_with fail
          refine (ended_v h1 he).mono ?_
          rintro r w2 ⟨rfl, h2, m2⟩
          go_wp2_with fail
          refine (sees_v 10 h2 h10).mono ?_
          rintro r w3 ⟨rfl, h3, m3⟩
          go_wp2_with fail
          refine (sees_v 59 h3 h59).mono ?_
          rintro r w4 ⟨rfl, h4, m4⟩
          go_wp2_with fail
          refine (sees_v 35 h4 h35).mono ?_
          rintro r w5 ⟨rfl, h5, m5⟩
          go_wp2_with fail
          go_end0
          exact ⟨rfl, h5, m1.trans (m2.trans (m3.trans (m4.trans m5)))⟩
      · go_wp2_with fail
        refine (ended_v h1 he).mono ?_
        rintro r w2 ⟨rfl, h2, m2⟩
        go_wp2_with fail
        refine (sees_v 10 h2 h10).mono ?_
        rintro r w3 ⟨rfl, h3, m3⟩
        go_wp2_with fail
        refine (sees_v 59 h3 h59).mono ?_
        rintro r w4 ⟨rfl, h4, m4⟩
        go_wp2_with fail
        go_end0
        exact ⟨rfl, h4, m1.trans (m2.trans (m3.trans m4))⟩
    · go_wp2_with fail
      refine (ended_v h1 he).mono ?_
      rintro r w2 ⟨rfl, h2, m2⟩
      go_wp2_with fail
      refine (sees_v 10 h2 h10).mono ?_
      rintro r w3 ⟨rfl, h3, m3⟩
      go_wp2_with fail
      go_end0
      exact ⟨rfl, h3, m1.trans (m2.trans m3)⟩
end
end Go.Proofs.YtonnimbcekhbgaaGreatDoor
