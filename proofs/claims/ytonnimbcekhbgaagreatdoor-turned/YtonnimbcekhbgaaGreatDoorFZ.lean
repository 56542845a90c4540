/- Where a text stands first in another one. -/
import Derived.Test.YtonnimbcekhbgaaGreatDoorA
import Derived.Lib.Bytealg
import Derived.WalkLawsBesides
namespace Go.Proofs.YtonnimbcekhbgaaGreatDoor
open Go.RowKit

/-- A text stands in another one at a place. -/
def standsB (s w : ByteArray) (i : Nat) : Bool := decide (i + w.size ≤ s.size) && ((s.extract i (i + w.size)).toList == w.toList)

set_option maxHeartbeats 800000 in
theorem stands_any {s v : ByteArray} (hs : s.size ≤ 100000) (hv : v.size ≤ 100000) (fr : Nat) (hf : fr ≤ 100000) (w : World) :
    Calls Tryz.prog 13 #[.string s, .string v, .int .i64 fr] w fun e w' => Kp [] w w' ∧
      ((∃ i : Nat, fr ≤ i ∧ e = .returned (.int .i64 i) ∧ standsB s v i = true ∧ ∀ j, fr ≤ j → j < i → standsB s v j = false) ∨ (e = .returned (.int .i64 (-1)) ∧ ∀ j, fr ≤ j → standsB s v j = false)) := by
  go_enter Tryz.func13, Tryz.ntmps13
  go_wp2_with fail
  go_loopw [7] (fun x wr => ∃ k : Nat, fr ≤ k ∧ k ≤ 200001 ∧ x = .int .i64 k ∧ Kp [] w wr ∧ Hid (∀ j, fr ≤ j → j < k → standsB s v j = false)) (fun x _ => 300000 - (intOf x).toNat)
  case atStart => exact ⟨fr, Nat.le_refl _, by omega, rfl, Kp.refl _ _, hid (fun j h1 h2 => by omega)⟩
  case round =>
    obtain ⟨k, hfk, hk, rfl, kr, hno⟩ := hrel
    obtain ⟨q, hq⟩ : ∃ q : Nat, (k : Int) + (v.size : Int) = (q : Int) := ⟨k + v.size, by omega⟩
    have wq := wrap_i64_nat q (by omega)
    have hqn : q = k + v.size := by omega
    obtain ⟨k1, hk1⟩ : ∃ k1 : Nat, (k : Int) + 1 = (k1 : Int) := ⟨k + 1, by omega⟩
    have wk1 := wrap_i64_nat k1 (by omega)
    have HQ := hid hqn
    clear hqn
    by_cases hle : q ≤ s.size
    · obtain ⟨b, hb⟩ : ∃ b, ((s.extract k q).toList == v.toList) = b := ⟨_, rfl⟩
      have hkq : k ≤ q := by have := HQ.out; omega
      have hst : standsB s v k = b := by
        unfold standsB
        rw [← HQ.out, decide_eq_true hle, Bool.true_and]; exact hb
      have HST := hid hst
      clear hst
      cases b with
      | true =>
        go_wp2_with fail
        go_ret
        exact ⟨kr, .inl ⟨k, hfk, rfl, HST.out, hno.out⟩⟩
      | false =>
        go_wp2_with fail
        refine ⟨⟨k1, by omega, by have := HQ.out; omega, by go_num, kr, hid (fun j h1 h2 => ?_)⟩, by simp [intOf]; omega⟩
        by_cases e : j = k
        · rw [e]; exact HST.out
        · exact hno.out j h1 (by omega)
    · go_wp2_with fail
      go_ret
      refine ⟨kr, .inr ⟨rfl, fun j h1 => ?_⟩⟩
      by_cases e : j < k
      · exact hno.out j h1 e
      · unfold standsB
        rw [decide_eq_false (by have := HQ.out; omega), Bool.false_and]

end Go.Proofs.YtonnimbcekhbgaaGreatDoor
