/- Need a script know what comes behind a line? Not where no command asks for the last line, nor for the next. -/
import Derived.Test.YtonnimbcekhbgaaGreatDoorEX
import Derived.Deep.LoopGhost
namespace Go.Proofs.YtonnimbcekhbgaaGreatDoor
open Go.RowKit

section
variable {w w' : World} {sb lo hi : Nat} {σ : Sst}

/-- A command that need not know it: no address, or a number; neither n nor N. -/
def NoAhead (w : World) (g o : Nat) : Prop :=
  (∃ A c, w.cell? ⟨g, o, none⟩ = some (.slice A 0 c) ∨ ∃ p, A = some ⟨p, 0, none⟩ ∧ w.cell? ⟨g, o, none⟩ = some (.slice (some ⟨p, 0, none⟩) 1 c) ∧ w.cell? ⟨p, 0, none⟩ = some (.int .i64 0)) ∧
  ∃ x : Nat, w.cell? ⟨g, o + 3, none⟩ = some (.int .u8 x) ∧ x ≠ 110 ∧ x ≠ 78

set_option maxRecDepth 100000 in
set_option maxHeartbeats 1000000 in
theorem aheadC_no {g o : Nat} (h : NoAhead w g o) :
    Calls Tryz.prog 59 #[.pointer (some ⟨g, o, none⟩)] w fun r w' => r = .returned (.bool false) ∧ w' = w := by
  obtain ⟨⟨A, c, h0⟩, x, h3, hx1, hx2⟩ := h
  have g1 : ((x : Int) == 110) = false := by rw [beq_eq_false_iff_ne]; omega
  have g2 : ((x : Int) == 78) = false := by rw [beq_eq_false_iff_ne]; omega
  rcases h0 with h0 | ⟨p, rfl, h0, hp⟩
  · go_enter Tryz.func59, Tryz.ntmps59
    go_wp2_with fail
    refine wp_loop_rounds 1 ?_
    rw [rounds_succ]
    go_wp2_with fail
    go_ret
    exact ⟨rfl, rfl⟩
  · go_enter Tryz.func59, Tryz.ntmps59
    go_wp2_with fail
    refine wp_loop_rounds 2 ?_
    rw [rounds_succ]
    go_wp2_with fail
    rw [rounds_succ]
    go_wp2_with fail
    go_ret
    exact ⟨rfl, rfl⟩

set_option maxRecDepth 100000 in
set_option maxHeartbeats 1000000 in
theorem ahead_no (hs : Scr lo hi w sb 0 σ) (hl : σ.cs.length ≤ 2000) (hc : ∀ i g cap, i < σ.cs.length → σ.vc = .slice (some ⟨g, 0, none⟩) σ.cs.length cap → NoAhead w g (i * 23)) :
    Calls Tryz.prog 28 #[.pointer (some ⟨sb, 0, none⟩)] w fun r w' => r = .returned (.bool false) ∧ w' = w := by
  obtain ⟨A, c, e, hA, hA2⟩ := own_form hs.o4
  have c1 := hs.c1
  rw [e] at c1
  have HC := hid hc
  have HE := hid e
  have HA := hid (And.intro hA hA2)
  clear hc e hA hA2
  obtain ⟨n, hn⟩ : ∃ n, n = σ.cs.length := ⟨_, rfl⟩
  rw [← hn] at c1 hl
  have HN := hid hn
  clear hn
  go_enter Tryz.func28, Tryz.ntmps28
  go_wp2_with fail
  go_loopw [9] (fun v wr => ∃ k : Nat, k ≤ n ∧ v = .int .i64 k ∧ wr = w) (fun v _ => 3000 - (intOf v).toNat)
  case atStart => exact ⟨0, by omega, rfl, rfl⟩
  case round =>
    obtain ⟨k, hk, rfl, rfl⟩ := hrel
    by_cases hkn : k < n
    · obtain ⟨g, rfl⟩ : ∃ g, A = some ⟨g, 0, none⟩ := by
        cases hA : A with
        | none => have := HA.out.1 hA; have := HN.out; omega
        | some ad =>
          obtain ⟨g, hg⟩ := HA.out.2 ad hA
          exact ⟨g, by rw [hg]⟩
      have HNA := hid (HC.out k g c (by rw [← HN.out]; exact hkn) HE.out)
      obtain ⟨k1, hk1⟩ : ∃ k1 : Nat, k1 = k + 1 := ⟨_, rfl⟩
      have wr := wrap_i64_succ k k1 hk1 (by omega)
      have HK1 := hid hk1
      clear hk1
      go_wp2_with fail
      refine (aheadC_no HNA.out).mono ?_
      rintro r w1 ⟨rfl, rfl⟩
      go_wp2_with fail
      go_round
      case rel => exact ⟨k1, by have := HK1.out; omega, by trivial, by trivial⟩
      case measure => have := HK1.out; simp [intOf]; omega
    · have hkk : k = n := by omega
      subst hkk
      go_wp2_with fail
      go_ret
      exact ⟨rfl, rfl⟩
end
end Go.Proofs.YtonnimbcekhbgaaGreatDoor
