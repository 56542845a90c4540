/- One text out of several: EB EC. -/
import Derived.Test.YtonnimbcekhbgaaGreatDoorEA

/- The script's reader: what stands between commands, words, numbers, where a command ends. -/
namespace Go.Proofs.YtonnimbcekhbgaaGreatDoor
open Go.RowKit

section
variable {w w' : World} {b k : Nat} {src : ByteArray}

/-- Behind a remark. -/
def cmtN (s : ByteArray) : Nat → Nat → Option Nat
  | 0, _ => none
  | n + 1, k => if k < s.size && !saw s k 10 then cmtN s n (k + 1) else some k

set_option maxHeartbeats 400000 in
theorem comment_v {n e : Nat} (hr : Cur w b src k) (h : cmtN src n k = some e) :
    Calls Tryz.prog 115 #[.pointer (some ⟨b, 0, none⟩)] w fun r w' => r = .returned (.tuple #[]) ∧ Cur w' b src e ∧ Mv b w w' := by
  have hsm := hr.small
  have H := hid h
  clear h
  go_enter Tryz.func115, Tryz.ntmps115
  go_wp2
  go_loopw [2] (fun _ wr => ∃ a m : Nat, Cur wr b src a ∧ Mv b w wr ∧ Hid (cmtN src m a = some e)) (fun _ wr => 3000 - curAt wr b)
  case atStart => exact ⟨k, n, hr, Mv.refl _ _, H⟩
  case round =>
    obtain ⟨a, m, hrr, hmv, HB⟩ := hrel
    have HAT := hid (curAt_of hrr)
    match m, HB with
    | 0, HB => cases HB.out
    | m + 1, HB =>
    have hB := HB.out
    unfold cmtN at hB
    have hle := hrr.le
    by_cases hk : a < src.size
    · have he : ((a : Int) == (src.size : Int)) = false := by simp; omega
      cases h10 : saw src a 10
      · simp [hk, h10] at hB
        clear HB
        have HB := hid hB
        clear hB
        go_wp2_with fail
        refine (ended_v hrr he).mono ?_
        rintro e w1 ⟨rfl, h1, m1⟩
        go_wp2_with fail
        refine (sees_v 10 h1 h10).mono ?_
        rintro e w2 ⟨rfl, h2, m2⟩
        have c1 := h2.c1
        have f1 := h2.free 1
        go_wp2_with fail
        go_round
        case rel => exact ⟨a + 1, m, h2.step hk, hmv.trans (m1.trans (m2.trans (Mv.step _ _ _))), HB⟩
        case measure => rw [curAt_of (h2.step hk), HAT.out]; omega
      · simp [hk, h10] at hB
        subst hB
        clear HB
        go_wp2_with fail
        refine (ended_v hrr he).mono ?_
        rintro e w1 ⟨rfl, h1, m1⟩
        go_wp2_with fail
        refine (sees_v 10 h1 h10).mono ?_
        rintro e w2 ⟨rfl, h2, m2⟩
        go_wp2_with fail
        go_end0
        exact ⟨rfl, h2, hmv.trans (m1.trans m2)⟩
    · have he : ((a : Int) == (src.size : Int)) = true := by simp; omega
      simp [hk] at hB
      subst hB
      clear HB
      go_wp2_with fail
      refine (ended_v hrr he).mono ?_
      rintro e w1 ⟨rfl, h1, m1⟩
      go_wp2_with fail
      go_end0
      exact ⟨rfl, h1, hmv.trans m1⟩

/-- Behind what may stand ahead of a command. -/
def btwN (s : ByteArray) : Nat → Nat → Option Nat
  | 0, _ => none
  | n + 1, k => if saw s k 35 then (cmtN s n k).bind (fun e => btwN s n e) else if saw s k 10 || saw s k 59 || isB s k then btwN s n (k + 1) else some k
theorem cmtN_gt {s : ByteArray} : ∀ {n k e : Nat}, cmtN s n k = some e → k ≤ e
  | 0, _, _, h => by cases h
  | n + 1, k, e, h => by
    unfold cmtN at h
    split at h
    · have := cmtN_gt h
      omega
    · simp at h; omega
theorem cmtN_gt1 {s : ByteArray} {n k e : Nat} (h : cmtN s n k = some e) (h35 : saw s k 35 = true) : k < e := by
  cases n with
  | zero => cases h
  | succ n =>
    unfold cmtN at h
    have h10 : saw s k 10 = false := by
      have hk := saw_lt h35
      simp only [saw, hk, dif_pos, beq_iff_eq] at h35 ⊢
      rw [h35]; rfl
    simp [saw_lt h35, h10] at h
    have := cmtN_gt h
    omega

set_option maxHeartbeats 800000 in
theorem between_v {n e : Nat} (hr : Cur w b src k) (h : btwN src n k = some e) :
    Calls Tryz.prog 78 #[.pointer (some ⟨b, 0, none⟩)] w fun r w' => r = .returned (.tuple #[]) ∧ Cur w' b src e ∧ Mv b w w' := by
  have hsm := hr.small
  have H := hid h
  clear h
  go_enter Tryz.func78, Tryz.ntmps78
  go_wp2
  go_loopw [2] (fun _ wr => ∃ a m : Nat, Cur wr b src a ∧ Mv b w wr ∧ Hid (btwN src m a = some e)) (fun _ wr => 3000 - curAt wr b)
  case atStart => exact ⟨k, n, hr, Mv.refl _ _, H⟩
  case round =>
    obtain ⟨a, m, hrr, hmv, HB⟩ := hrel
    have HAT := hid (curAt_of hrr)
    match m, HB with
    | 0, HB => cases HB.out
    | m + 1, HB =>
    have hB := HB.out
    unfold btwN at hB
    have hle := hrr.le
    clear HB
    cases h35 : saw src a 35
    · rw [h35, if_neg (by simp)] at hB
      cases h10 : saw src a 10
      · cases h59 : saw src a 59
        · cases hb : isB src a
          · simp [h10, h59, hb] at hB
            subst hB
            go_wp2_with fail
            refine (sees_v 35 hrr h35).mono ?_
            rintro e w1 ⟨rfl, h1, m1⟩
            go_wp2_with fail
            refine (take_v 10 h1 h10).mono ?_
            rintro e w2 ⟨rfl, h2, m2⟩
            go_wp2_with fail
            refine (take_v 59 h2 h59).mono ?_
            rintro e w3 ⟨rfl, h3, m3⟩
            go_wp2_with fail
            refine (blank_v h3 hb).mono ?_
            rintro e w4 ⟨rfl, h4, m4⟩
            go_wp2_with fail
            refine bodyPost_ret (results_none rfl _ _ _) rfl ?_
            exact ⟨rfl, h4, hmv.trans (m1.trans (m2.trans (m3.trans m4)))⟩
          · simp [h10, h59, hb] at hB
            have hlt := isB_lt hb
            have HB := hid hB
            clear hB
            go_wp2_with fail
            refine (sees_v 35 hrr h35).mono ?_
            rintro e w1 ⟨rfl, h1, m1⟩
            go_wp2_with fail
            refine (take_v 10 h1 h10).mono ?_
            rintro e w2 ⟨rfl, h2, m2⟩
            go_wp2_with fail
            refine (take_v 59 h2 h59).mono ?_
            rintro e w3 ⟨rfl, h3, m3⟩
            go_wp2_with fail
            refine (blank_v h3 hb).mono ?_
            rintro e w4 ⟨rfl, h4, m4⟩
            go_wp2_with fail
            go_round
            case rel => exact ⟨a + 1, m, h4, hmv.trans (m1.trans (m2.trans (m3.trans m4))), HB⟩
            case measure => rw [curAt_of (show Cur w4 b src (a + 1) from h4), HAT.out]; omega
        · simp [h10, h59] at hB
          have hlt := saw_lt h59
          have HB := hid hB
          clear hB
          go_wp2_with fail
          refine (sees_v 35 hrr h35).mono ?_
          rintro e w1 ⟨rfl, h1, m1⟩
          go_wp2_with fail
          refine (take_v 10 h1 h10).mono ?_
          rintro e w2 ⟨rfl, h2, m2⟩
          go_wp2_with fail
          refine (take_v 59 h2 h59).mono ?_
          rintro e w3 ⟨rfl, h3, m3⟩
          go_wp2_with fail
          go_round
          case rel => exact ⟨a + 1, m, h3, hmv.trans (m1.trans (m2.trans m3)), HB⟩
          case measure => rw [curAt_of (show Cur w3 b src (a + 1) from h3), HAT.out]; omega
      · simp [h10] at hB
        have hlt := saw_lt h10
        have HB := hid hB
        clear hB
        go_wp2_with fail
        refine (sees_v 35 hrr h35).mono ?_
        rintro e w1 ⟨rfl, h1, m1⟩
        go_wp2_with fail
        refine (take_v 10 h1 h10).mono ?_
        rintro e w2 ⟨rfl, h2, m2⟩
        go_wp2_with fail
        go_round
        case rel => exact ⟨a + 1, m, h2, hmv.trans (m1.trans m2), HB⟩
        case measure => rw [curAt_of (show Cur w2 b src (a + 1) from h2), HAT.out]; omega
    · rw [h35, if_pos rfl] at hB
      obtain ⟨a2, hc, hB⟩ := Option.bind_eq_some_iff.1 hB
      have hgt := cmtN_gt1 hc h35
      have HB := hid hB
      have HC := hid hc
      clear hB hc
      go_wp2_with fail
      refine (sees_v 35 hrr h35).mono ?_
      rintro e w1 ⟨rfl, h1, m1⟩
      go_wp2_with fail
      refine (comment_v h1 HC.out).mono ?_
      rintro e w2 ⟨rfl, h2, m2⟩
      have hle2 := h2.le
      go_wp2_with fail
      go_round
      case rel => exact ⟨a2, m, h2, hmv.trans (m1.trans m2), HB⟩
      case measure => rw [curAt_of h2, HAT.out]; omega
end
end Go.Proofs.YtonnimbcekhbgaaGreatDoor

/- The script's reader: words, numbers, where an address begins, where a command ends. -/
namespace Go.Proofs.YtonnimbcekhbgaaGreatDoor
open Go.RowKit

section
variable {w w' : World} {b k : Nat} {src : ByteArray}

/-- A byte of a word. -/
def isW (s : ByteArray) (k : Nat) : Bool := if h : k < s.size then (decide (65 ≤ (s[k]).toNat) && decide ((s[k]).toNat ≤ 90)) || (decide (97 ≤ (s[k]).toNat) && decide ((s[k]).toNat ≤ 122)) || (decide (48 ≤ (s[k]).toNat) && decide ((s[k]).toNat ≤ 57)) else false
theorem isW_lt {s : ByteArray} {k : Nat} (h : isW s k = true) : k < s.size := by
  unfold isW at h
  split at h
  · assumption
  · cases h
theorem dec_nat {x y : Nat} {v : Bool} (h : decide (x ≤ y) = v) : decide ((x : Int) ≤ (y : Int)) = v := by
  rw [← h]; simp

set_option maxHeartbeats 2000000 in
theorem seesWord_v (hr : Cur w b src k) {v : Bool} (h : isW src k = v) :
    Calls Tryz.prog 103 #[.pointer (some ⟨b, 0, none⟩)] w fun e w' => e = .returned (.bool v) ∧ Cur w' b src k ∧ Mv b w w' := by
  by_cases hk : k < src.size
  · have he : ((k : Int) == (src.size : Int)) = false := by simp; omega
    rw [isW, dif_pos hk] at h
    obtain ⟨y, hy⟩ : ∃ y : Nat, y = (src[k]).toNat := ⟨_, rfl⟩
    rw [← hy] at h
    have HY := hid hy
    clear hy
    cases h1 : decide (65 ≤ y) <;> cases h2 : decide (y ≤ 90) <;> cases h3 : decide (97 ≤ y) <;> cases h4 : decide (y ≤ 122) <;> cases h5 : decide (48 ≤ y) <;> cases h6 : decide (y ≤ 57) <;> first
      | (exfalso; simp only [decide_eq_true_eq, decide_eq_false_iff_not] at h1 h2 h3 h4 h5 h6; omega)
      | (
        have g1 : decide ((65 : Int) ≤ (y : Int)) = _ := dec_nat h1
        have g2 : decide ((y : Int) ≤ 90) = _ := dec_nat h2
        have g3 : decide ((97 : Int) ≤ (y : Int)) = _ := dec_nat h3
        have g4 : decide ((y : Int) ≤ 122) = _ := dec_nat h4
        have g5 : decide ((48 : Int) ≤ (y : Int)) = _ := dec_nat h5
        have g6 : decide ((y : Int) ≤ 57) = _ := dec_nat h6
        rw [h1, h2, h3, h4, h5, h6] at h
        simp at h
        clear h1 h2 h3 h4 h5 h6
        subst h
        go_enter Tryz.func103, Tryz.ntmps103
        go_wp2_with fail
        refine (ended_v hr he).mono ?_
        rintro e w1 ⟨rfl, h1, m1⟩
        have c0 := h1.c0
        have c1 := h1.c1
        have c5 : (⟨src.data⟩ : ByteArray)[k].toNat = y := HY.out.symm
        go_wp2_with fail
        go_quiet (fail)
        go_wp2_with fail
        go_ret
        exact ⟨rfl, h1.drewN _, m1.trans (Mv.drewN _ _ _)⟩)
  · have he : ((k : Int) == (src.size : Int)) = true := by have := hr.le; simp; omega
    rw [isW, dif_neg hk] at h
    subst h
    go_enter Tryz.func103, Tryz.ntmps103
    go_wp2_with fail
    refine (ended_v hr he).mono ?_
    rintro e w1 ⟨rfl, h1, m1⟩
    go_wp2_with fail
    go_ret
    exact ⟨rfl, h1, m1⟩
/-- Where a word ends that began at f. -/
def wdN (s : ByteArray) (f : Nat) : Nat → Nat → Option Nat
  | 0, _ => none
  | n + 1, k => if isW s k then (if k - f = 8 then none else wdN s f n (k + 1)) else if k = f then none else some k

set_option maxHeartbeats 2000000 in
theorem word_v {n e : Nat} (hr : Cur w b src k) (h : wdN src (blk src k) n (blk src k) = some e) :
    Calls Tryz.prog 101 #[.pointer (some ⟨b, 0, none⟩)] w fun r w' => r = .returned (.string (src.extract (blk src k) e)) ∧ Cur w' b src e ∧ Mv b w w' := by
  have hsm := hr.small
  obtain ⟨f, hf⟩ : ∃ f, f = blk src k := ⟨_, rfl⟩
  rw [← hf] at h ⊢
  have H := hid h
  have HF := hid hf
  clear h hf
  go_enter Tryz.func101, Tryz.ntmps101
  go_wp2_with fail
  refine (blanks_v hr).mono ?_
  rintro r w1 ⟨rfl, h1, m1⟩
  rw [← HF.out] at h1
  have c1 := h1.c1
  go_wp2_with fail
  clear c1
  go_loopw [11] (fun _ wr => ∃ a m : Nat, f ≤ a ∧ Cur wr b src a ∧ Mv b w wr ∧ Hid (wdN src f m a = some e)) (fun _ wr => 3000 - curAt wr b)
  case atStart => exact ⟨f, n, Nat.le_refl _, h1, m1, H⟩
  case round =>
    obtain ⟨a, m, hfa, hrr, hmv, HB⟩ := hrel
    have HAT := hid (curAt_of hrr)
    match m, HB with
    | 0, HB => cases HB.out
    | m + 1, HB =>
    have hB := HB.out
    unfold wdN at hB
    have hle := hrr.le
    clear HB
    cases hw : isW src a
    · rw [hw, if_neg (by simp)] at hB
      by_cases hx : a = f
      · rw [if_pos hx] at hB; cases hB
      · rw [if_neg hx] at hB
        injection hB with hB
        subst hB
        have hne : ((a : Int) == (f : Int)) = false := by rw [beq_eq_false_iff_ne]; omega
        go_wp2_with fail
        refine (seesWord_v hrr hw).mono ?_
        rintro r w2 ⟨rfl, h2, m2⟩
        have c0 := h2.c0
        have c1 := h2.c1
        go_wp2_with fail
        go_quiet (fail)
        go_wp2_with fail
        go_ret
        exact ⟨rfl, h2.drewN _, hmv.trans (m2.trans (Mv.drewN _ _ _))⟩
    · rw [hw, if_pos rfl] at hB
      have hlt := isW_lt hw
      by_cases hx : a - f = 8
      · rw [if_pos hx] at hB; cases hB
      · rw [if_neg hx] at hB
        obtain ⟨d, hd⟩ : ∃ d : Nat, (a : Int) - (f : Int) = (d : Int) := ⟨a - f, by omega⟩
        have wd := wrap_i64_nat d (by omega)
        have hne : ((d : Int) == 8) = false := by rw [beq_eq_false_iff_ne]; omega
        have HB := hid hB
        clear hB
        go_wp2_with fail
        refine (seesWord_v hrr hw).mono ?_
        rintro r w2 ⟨rfl, h2, m2⟩
        have c1 := h2.c1
        have f1 := h2.free 1
        go_wp2_with fail
        go_round
        case rel => exact ⟨a + 1, m, by omega, h2.step hlt, hmv.trans (m2.trans (Mv.step _ _ _)), HB⟩
        case measure => rw [curAt_of (h2.step hlt), HAT.out]; omega
end
end Go.Proofs.YtonnimbcekhbgaaGreatDoor
