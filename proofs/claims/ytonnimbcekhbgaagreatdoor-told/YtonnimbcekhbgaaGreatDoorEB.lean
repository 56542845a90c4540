/- The script's reader: what stands between commands, words, numbers, where a command ends. -/
import Derived.Test.YtonnimbcekhbgaaGreatDoorEA
namespace Go.Proofs.YtonnimbcekhbgaaGreatDoor
open Go.RowKit

section
variable {w w' : World} {b k : Nat} {src : ByteArray}

/-- Behind a remark. -/
def cmtN (s : ByteArray) : Nat → Nat → Option Nat
  | 0, _ => none
  | n + 1, k => if k < s.size && !saw s k 10 then cmtN s n (k + 1) else some k

set_option maxHeartbeats 400000 in
theorem comment_v {n e : Nat} (hr : Cur w b src k) (h : cmtN src n k = some e) :
    Calls Tryz.prog 115 #[.pointer (some ⟨b, 0, none⟩)] w fun r w' => r = .returned (.tuple #[]) ∧ Cur w' b src e ∧ Mv b w w' := by
  have hsm := hr.small
  have H := hid h
  clear h
  go_enter Tryz.func115, Tryz.ntmps115
  go_wp2
  go_loopw [2] (fun _ wr => ∃ a m : Nat, Cur wr b src a ∧ Mv b w wr ∧ Hid (cmtN src m a = some e)) (fun _ wr => 3000 - curAt wr b)
  case atStart => exact ⟨k, n, hr, Mv.refl _ _, H⟩
  case round =>
    obtain ⟨a, m, hrr, hmv, HB⟩ := hrel
    have HAT := hid (curAt_of hrr)
    match m, HB with
    | 0, HB => cases HB.out
    | m + 1, HB =>
    have hB := HB.out
    unfold cmtN at hB
    have hle := hrr.le
    by_cases hk : a < src.size
    · have he : ((a : Int) == (src.size : Int)) = false := by simp; omega
      cases h10 : saw src a 10
      · simp [hk, h10] at hB
        clear HB
        have HB := hid hB
        clear hB
        go_wp2_with fail
        refine (ended_v hrr he).mono ?_
        rintro e w1 ⟨rfl, h1, m1⟩
        go_wp2_with fail
        refine (sees_v 10 h1 h10).mono ?_
        rintro e w2 ⟨rfl, h2, m2⟩
        have c1 := h2.c1
        have f1 := h2.free 1
        go_wp2_with fail
        go_round
        case rel => exact ⟨a + 1, m, h2.step hk, hmv.trans (m1.trans (m2.trans (Mv.step _ _ _))), HB⟩
        case measure => rw [curAt_of (h2.step hk), HAT.out]; omega
      · simp [hk, h10] at hB
        subst hB
        clear HB
        go_wp2_with fail
        refine (ended_v hrr he).mono ?_
        rintro e w1 ⟨rfl, h1, m1⟩
        go_wp2_with fail
        refine (sees_v 10 h1 h10).mono ?_
        rintro e w2 ⟨rfl, h2, m2⟩
        go_wp2_with fail
        go_end0
        exact ⟨rfl, h2, hmv.trans (m1.trans m2)⟩
    · have he : ((a : Int) == (src.size : Int)) = true := by simp; omega
      simp [hk] at hB
      subst hB
      clear HB
      go_wp2_with fail
      refine (ended_v hrr he).mono ?_
      rintro e w1 ⟨rfl, h1, m1⟩
      go_wp2_with fail
      go_end0
      exact ⟨rfl, h1, hmv.trans m1⟩

/-- Behind what may stand ahead of a command. -/
def btwN (s : ByteArray) : Nat → Nat → Option Nat
  | 0, _ => none
  | n + 1, k => if saw s k 35 then (cmtN s n k).bind (fun e => btwN s n e) else if saw s k 10 || saw s k 59 || isB s k then btwN s n (k + 1) else some k
theorem cmtN_gt {s : ByteArray} : ∀ {n k e : Nat}, cmtN s n k = some e → k ≤ e
  | 0, _, _, h => by cases h
  | n + 1, k, e, h => by
    unfold cmtN at h
    split at h
    · have := cmtN_gt h
      omega
    · simp at h; omega
theorem cmtN_gt1 {s : ByteArray} {n k e : Nat} (h : cmtN s n k = some e) (h35 : saw s k 35 = true) : k < e := by
  cases n with
  | zero => cases h
  | succ n =>
    unfold cmtN at h
    have h10 : saw s k 10 = false := by
      have hk := saw_lt h35
      simp only [saw, hk, dif_pos, beq_iff_eq] at h35 ⊢
      rw [h35]; rfl
    simp [saw_lt h35, h10] at h
    have := cmtN_gt h
    omega

set_option maxHeartbeats 800000 in
theorem between_v {n e : Nat} (hr : Cur w b src k) (h : btwN src n k = some e) :
    Calls Tryz.prog 78 #[.pointer (some ⟨b, 0, none⟩)] w fun r w' => r = .returned (.tuple #[]) ∧ Cur w' b src e ∧ Mv b w w' := by
  have hsm := hr.small
  have H := hid h
  clear h
  go_enter Tryz.func78, Tryz.ntmps78
  go_wp2
  go_loopw [2] (fun _ wr => ∃ a m : Nat, Cur wr b src a ∧ Mv b w wr ∧ Hid (btwN src m a = some e)) (fun _ wr => 3000 - curAt wr b)
  case atStart => exact ⟨k, n, hr, Mv.refl _ _, H⟩
  case round =>
    obtain ⟨a, m, hrr, hmv, HB⟩ := hrel
    have HAT := hid (curAt_of hrr)
    match m, HB with
    | 0, HB => cases HB.out
    | m + 1, HB =>
    have hB := HB.out
    unfold btwN at hB
    have hle := hrr.le
    clear HB
    cases h35 : saw src a 35
    · rw [h35, if_neg (by simp)] at hB
      cases h10 : saw src a 10
      · cases h59 : saw src a 59
        · cases hb : isB src a
          · simp [h10, h59, hb] at hB
            subst hB
            go_wp2_with fail
            refine (sees_v 35 hrr h35).mono ?_
            rintro e w1 ⟨rfl, h1, m1⟩
            go_wp2_with fail
            refine (take_v 10 h1 h10).mono ?_
            rintro e w2 ⟨rfl, h2, m2⟩
            go_wp2_with fail
            refine (take_v 59 h2 h59).mono ?_
            rintro e w3 ⟨rfl, h3, m3⟩
            go_wp2_with fail
            refine (blank_v h3 hb).mono ?_
            rintro e w4 ⟨rfl, h4, m4⟩
            go_wp2_with fail
            refine bodyPost_ret (results_none rfl _ _ _) rfl ?_
            exact ⟨rfl, h4, hmv.trans (m1.trans (m2.trans (m3.trans m4)))⟩
          · simp [h10, h59, hb] at hB
            have hlt := isB_lt hb
            have HB := hid hB
            clear hB
            go_wp2_with fail
            refine (sees_v 35 hrr h35).mono ?_
            rintro e w1 ⟨rfl, h1, m1⟩
            go_wp2_with fail
            refine (take_v 10 h1 h10).mono ?_
            rintro e w2 ⟨rfl, h2, m2⟩
            go_wp2_with fail
            refine (take_v 59 h2 h59).mono ?_
            rintro e w3 ⟨rfl, h3, m3⟩
            go_wp2_with fail
            refine (blank_v h3 hb).mono ?_
            rintro e w4 ⟨rfl, h4, m4⟩
            go_wp2_with fail
            go_round
            case rel => exact ⟨a + 1, m, h4, hmv.trans (m1.trans (m2.trans (m3.trans m4))), HB⟩
            case measure => rw [curAt_of (show Cur w4 b src (a + 1) from h4), HAT.out]; omega
        · simp [h10, h59] at hB
          have hlt := saw_lt h59
          have HB := hid hB
          clear hB
          go_wp2_with fail
          refine (sees_v 35 hrr h35).mono ?_
          rintro e w1 ⟨rfl, h1, m1⟩
          go_wp2_with fail
          refine (take_v 10 h1 h10).mono ?_
          rintro e w2 ⟨rfl, h2, m2⟩
          go_wp2_with fail
          refine (take_v 59 h2 h59).mono ?_
          rintro e w3 ⟨rfl, h3, m3⟩
          go_wp2_with fail
          go_round
          case rel => exact ⟨a + 1, m, h3, hmv.trans (m1.trans (m2.trans m3)), HB⟩
          case measure => rw [curAt_of (show Cur w3 b src (a + 1) from h3), HAT.out]; omega
      · simp [h10] at hB
        have hlt := saw_lt h10
        have HB := hid hB
        clear hB
        go_wp2_with fail
        refine (sees_v 35 hrr h35).mono ?_
        rintro e w1 ⟨rfl, h1, m1⟩
        go_wp2_with fail
        refine (take_v 10 h1 h10).mono ?_
        rintro e w2 ⟨rfl, h2, m2⟩
        go_wp2_with fail
        go_round
        case rel => exact ⟨a + 1, m, h2, hmv.trans (m1.trans m2), HB⟩
        case measure => rw [curAt_of (show Cur w2 b src (a + 1) from h2), HAT.out]; omega
    · rw [h35, if_pos rfl] at hB
      obtain ⟨a2, hc, hB⟩ := Option.bind_eq_some_iff.1 hB
      have hgt := cmtN_gt1 hc h35
      have HB := hid hB
      have HC := hid hc
      clear hB hc
      go_wp2_with fail
      refine (sees_v 35 hrr h35).mono ?_
      rintro e w1 ⟨rfl, h1, m1⟩
      go_wp2_with fail
      refine (comment_v h1 HC.out).mono ?_
      rintro e w2 ⟨rfl, h2, m2⟩
      have hle2 := h2.le
      go_wp2_with fail
      go_round
      case rel => exact ⟨a2, m, h2, hmv.trans (m1.trans m2), HB⟩
      case measure => rw [curAt_of h2, HAT.out]; omega
end
end Go.Proofs.YtonnimbcekhbgaaGreatDoor
