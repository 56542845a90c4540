/- The script's reader: words, numbers, where an address begins, where a command ends. -/
import Derived.Test.YtonnimbcekhbgaaGreatDoorEB
namespace Go.Proofs.YtonnimbcekhbgaaGreatDoor
open Go.RowKit

section
variable {w w' : World} {b k : Nat} {src : ByteArray}

/-- A byte of a word. -/
def isW (s : ByteArray) (k : Nat) : Bool := if h : k < s.size then (decide (65 ≤ (s[k]).toNat) && decide ((s[k]).toNat ≤ 90)) || (decide (97 ≤ (s[k]).toNat) && decide ((s[k]).toNat ≤ 122)) || (decide (48 ≤ (s[k]).toNat) && decide ((s[k]).toNat ≤ 57)) else false
theorem isW_lt {s : ByteArray} {k : Nat} (h : isW s k = true) : k < s.size := by
  unfold isW at h
  split at h
  · assumption
  · cases h
theorem dec_nat {x y : Nat} {v : Bool} (h : decide (x ≤ y) = v) : decide ((x : Int) ≤ (y : Int)) = v := by
  rw [← h]; simp

set_option maxHeartbeats 2000000 in
theorem seesWord_v (hr : Cur w b src k) {v : Bool} (h : isW src k = v) :
    Calls Tryz.prog 103 #[.pointer (some ⟨b, 0, none⟩)] w fun e w' => e = .returned (.bool v) ∧ Cur w' b src k ∧ Mv b w w' := by
  by_cases hk : k < src.size
  · have he : ((k : Int) == (src.size : Int)) = false := by simp; omega
    rw [isW, dif_pos hk] at h
    obtain ⟨y, hy⟩ : ∃ y : Nat, y = (src[k]).toNat := ⟨_, rfl⟩
    rw [← hy] at h
    have HY := hid hy
    clear hy
    cases h1 : decide (65 ≤ y) <;> cases h2 : decide (y ≤ 90) <;> cases h3 : decide (97 ≤ y) <;> cases h4 : decide (y ≤ 122) <;> cases h5 : decide (48 ≤ y) <;> cases h6 : decide (y ≤ 57) <;> first
      | (exfalso; simp only [decide_eq_true_eq, decide_eq_false_iff_not] at h1 h2 h3 h4 h5 h6; omega)
      | (
        have g1 : decide ((65 : Int) ≤ (y : Int)) = _ := dec_nat h1
        have g2 : decide ((y : Int) ≤ 90) = _ := dec_nat h2
        have g3 : decide ((97 : Int) ≤ (y : Int)) = _ := dec_nat h3
        have g4 : decide ((y : Int) ≤ 122) = _ := dec_nat h4
        have g5 : decide ((48 : Int) ≤ (y : Int)) = _ := dec_nat h5
        have g6 : decide ((y : Int) ≤ 57) = _ := dec_nat h6
        rw [h1, h2, h3, h4, h5, h6] at h
        simp at h
        clear h1 h2 h3 h4 h5 h6
        subst h
        go_enter Tryz.func103, Tryz.ntmps103
        go_wp2_with fail
        refine (ended_v hr he).mono ?_
        rintro e w1 ⟨rfl, h1, m1⟩
        have c0 := h1.c0
        have c1 := h1.c1
        have c5 : (⟨src.data⟩ : ByteArray)[k].toNat = y := HY.out.symm
        go_wp2_with fail
        go_quiet (fail)
        go_wp2_with fail
        go_ret
        exact ⟨rfl, h1.drewN _, m1.trans (Mv.drewN _ _ _)⟩)
  · have he : ((k : Int) == (src.size : Int)) = true := by have := hr.le; simp; omega
    rw [isW, dif_neg hk] at h
    subst h
    go_enter Tryz.func103, Tryz.ntmps103
    go_wp2_with fail
    refine (ended_v hr he).mono ?_
    rintro e w1 ⟨rfl, h1, m1⟩
    go_wp2_with fail
    go_ret
    exact ⟨rfl, h1, m1⟩
/-- Where a word ends that began at f. -/
def wdN (s : ByteArray) (f : Nat) : Nat → Nat → Option Nat
  | 0, _ => none
  | n + 1, k => if isW s k then (if k - f = 8 then none else wdN s f n (k + 1)) else if k = f then none else some k

set_option maxHeartbeats 2000000 in
theorem word_v {n e : Nat} (hr : Cur w b src k) (h : wdN src (blk src k) n (blk src k) = some e) :
    Calls Tryz.prog 101 #[.pointer (some ⟨b, 0, none⟩)] w fun r w' => r = .returned (.string (src.extract (blk src k) e)) ∧ Cur w' b src e ∧ Mv b w w' := by
  have hsm := hr.small
  obtain ⟨f, hf⟩ : ∃ f, f = blk src k := ⟨_, rfl⟩
  rw [← hf] at h ⊢
  have H := hid h
  have HF := hid hf
  clear h hf
  go_enter Tryz.func101, Tryz.ntmps101
  go_wp2_with fail
  refine (blanks_v hr).mono ?_
  rintro r w1 ⟨rfl, h1, m1⟩
  rw [← HF.out] at h1
  have c1 := h1.c1
  go_wp2_with fail
  clear c1
  go_loopw [11] (fun _ wr => ∃ a m : Nat, f ≤ a ∧ Cur wr b src a ∧ Mv b w wr ∧ Hid (wdN src f m a = some e)) (fun _ wr => 3000 - curAt wr b)
  case atStart => exact ⟨f, n, Nat.le_refl _, h1, m1, H⟩
  case round =>
    obtain ⟨a, m, hfa, hrr, hmv, HB⟩ := hrel
    have HAT := hid (curAt_of hrr)
    match m, HB with
    | 0, HB => cases HB.out
    | m + 1, HB =>
    have hB := HB.out
    unfold wdN at hB
    have hle := hrr.le
    clear HB
    cases hw : isW src a
    · rw [hw, if_neg (by simp)] at hB
      by_cases hx : a = f
      · rw [if_pos hx] at hB; cases hB
      · rw [if_neg hx] at hB
        injection hB with hB
        subst hB
        have hne : ((a : Int) == (f : Int)) = false := by rw [beq_eq_false_iff_ne]; omega
        go_wp2_with fail
        refine (seesWord_v hrr hw).mono ?_
        rintro r w2 ⟨rfl, h2, m2⟩
        have c0 := h2.c0
        have c1 := h2.c1
        go_wp2_with fail
        go_quiet (fail)
        go_wp2_with fail
        go_ret
        exact ⟨rfl, h2.drewN _, hmv.trans (m2.trans (Mv.drewN _ _ _))⟩
    · rw [hw, if_pos rfl] at hB
      have hlt := isW_lt hw
      by_cases hx : a - f = 8
      · rw [if_pos hx] at hB; cases hB
      · rw [if_neg hx] at hB
        obtain ⟨d, hd⟩ : ∃ d : Nat, (a : Int) - (f : Int) = (d : Int) := ⟨a - f, by omega⟩
        have wd := wrap_i64_nat d (by omega)
        have hne : ((d : Int) == 8) = false := by rw [beq_eq_false_iff_ne]; omega
        have HB := hid hB
        clear hB
        go_wp2_with fail
        refine (seesWord_v hrr hw).mono ?_
        rintro r w2 ⟨rfl, h2, m2⟩
        have c1 := h2.c1
        have f1 := h2.free 1
        go_wp2_with fail
        go_round
        case rel => exact ⟨a + 1, m, by omega, h2.step hlt, hmv.trans (m2.trans (Mv.step _ _ _)), HB⟩
        case measure => rw [curAt_of (h2.step hlt), HAT.out]; omega
end
end Go.Proofs.YtonnimbcekhbgaaGreatDoor
