/- A byte as often as may be, once at least: all its instructions. -/
import Derived.Test.YtbakfojamdocgaaDoorBB
namespace Go.Proofs.YtbakfojamdocgaaDoor
open Go.RowKit

set_option maxRecDepth 100000 in
set_option maxHeartbeats 2000000 in
theorem rep_emit {L : Nat} {w : World} (h : Ls w L 1 (ins0 6 0 0 0 0) 0 0) (m : Nat → Bool) :
    Calls Tryd.prog 77 #[repA m, .pointer (some ⟨L, 0, none⟩), .int .i64 0] w fun e w' => e = .returned (.int .i64 4) ∧ Ls w' L 5 (ins0 6 0 0 0 0 ++ ins0 4 3 0 0 0 ++ ins0 5 1 0 0 0 ++ ins 0 2 0 0 1 m ++ ins 0 1 0 0 0 m) 0 1 ∧ Below L w w' := by
  have hm := emit_of_one
  have hl := h.lt
  have k0 := Kp.alloc [] w (.cells #[oneV m, .int .i64 1, .int .i64 (-1)] 91)
  have b0 : Below L w (w.alloc (.cells #[oneV m, .int .i64 1, .int .i64 (-1)] 91)) := (Below.refl L w).alloc (by omega) _
  have h0 := h.keep k0
  have t0 : SafeT L w.heap.size (w.alloc (.cells #[oneV m, .int .i64 1, .int .i64 (-1)] 91)) := by
    refine ⟨by simp, by omega, fun v hv q => ?_⟩
    obtain ⟨v', h1, h2, _⟩ := h.code
    have e : v = v' := Option.some.inj (hv.symm.trans ((k0.cell (p := ⟨L, 0, none⟩) hl (by simp)).trans h1))
    subst e
    have := (h2.lt _ q).2
    omega
  have i0 : (w.alloc (.cells #[oneV m, .int .i64 1, .int .i64 (-1)] 91)).cell? ⟨w.heap.size, 0, none⟩ = some (oneV m) := by simp
  have j0 : (w.alloc (.cells #[oneV m, .int .i64 1, .int .i64 (-1)] 91)).cell? ⟨w.heap.size, 1, none⟩ = some (.int .i64 1) := by simp
  have q0 : (w.alloc (.cells #[oneV m, .int .i64 1, .int .i64 (-1)] 91)).cell? ⟨w.heap.size, 2, none⟩ = some (.int .i64 (-1)) := by simp
  go_enter Tryd.func77, Tryd.ntmps77
  go_wp2_with fail
  refine (turns_emit h0 m).mono ?_
  rintro e w1 ⟨rfl, l1, b1, s1⟩
  have i1 := s1.cell t0 i0
  have j1 := s1.cell t0 j0
  have t1 := (s1 _ t0).1
  have B1 := b0.trans b1
  clear b0 b1 s1 i0 t0 h0 j0
  go_wp2_with fail
  go_loopw [7, 21] (fun bg i wr => (bg = .int .i64 1 ∧ i = .int .i64 0 ∧ wr = w1) ∨ (bg = .int .i64 4 ∧ i = .int .i64 1 ∧ Ls wr L 5 (ins0 6 0 0 0 0 ++ ins0 4 3 0 0 0 ++ ins0 5 1 0 0 0 ++ ins 0 2 0 0 1 m ++ ins 0 1 0 0 0 m) 0 1 ∧ Below L w wr)) (fun _ i _ => (2 - (intOf i)).toNat)
  case atStart => exact .inl ⟨rfl, rfl, rfl⟩
  case round =>
    rcases hrel with ⟨rfl, rfl, rfl⟩ | ⟨rfl, rfl, l2, B2⟩
    · go_wp2_with fail
      refine (one_emitS l1 (by omega) 1 m).mono ?_
      rintro e w2 ⟨rfl, l2, b2, _⟩
      go_wp2_with fail
      exact ⟨.inr ⟨rfl, rfl, l2, B1.trans b2⟩, by simp [intOf]⟩
    · go_wp2_with fail
      go_ret
      exact ⟨rfl, l2, B2⟩
end Go.Proofs.YtbakfojamdocgaaDoor
