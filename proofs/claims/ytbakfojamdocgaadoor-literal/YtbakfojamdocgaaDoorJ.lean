/- The face of the reader: readPattern, where nothing gives up. -/
import Derived.Test.YtbakfojamdocgaaDoorI
import Derived.Defers
import Derived.Recover
namespace Go.Proofs.YtbakfojamdocgaaDoor
open Go.RowKit

set_option maxRecDepth 100000 in
set_option maxHeartbeats 1000000 in
theorem catch_idle (p q r : Addr) (w : World) :
    CallsD Tryd.prog 17 #[.pointer (some p), .pointer (some q), .pointer (some r)] .returning w fun e u' w' => e = .returned (.tuple #[]) ∧ u' = .returning ∧ w' = w := by
  refine callsD_of_wpS Tryd.func17 rfl fun c₀ cs hu => ?_
  apply wpS_seq
  apply wpS_region
  simp [wpOpsS, go_sem, recoverD, hu, Tryd.ntmps17, Exit.thenS]
  refine wpS_of_wp ?_
  go_wp2
  cases c₀
  simp_all [bodyPostS, results, Tryd.results17]

set_option maxRecDepth 100000 in
set_option maxHeartbeats 1000000 in
theorem readPattern_one {src : ByteArray} {m : Nat → Bool} {w : World} (hw : Nm w) (h0 : 0 < src.size) (hs : src.size ≤ 100)
    (h124 : saw src 0 124 = false) (h41 : saw src 0 41 = false) (hp : ∀ b, b ≠ 0 → PieceOk b src 0 src.size 0 (oneV m)) :
    Calls Tryd.prog 15 #[.string src] w fun e w' => ∃ p, e = .returned (.tuple #[.pointer (some ⟨p, 0, none⟩), .int .i64 0, .int .i64 0]) ∧ Pt w.heap.size w' p 2 1 0 0 (ins0 6 0 0 0 0 ++ ins 0 0 0 0 0 m) ∧ Kp [] w w' := by
  have hmf : ∀ (fn : Fn) (first cap : Array Value) (w : World), (Instr.makeFunc fn first cap).run Tryd.prog w = .ok (.func fn first cap) w := fun _ _ _ _ => rfl
  go_enter_defers Tryd.func15, Tryd.ntmps15
  go_wp2_with fail
  obtain ⟨W, hW⟩ : ∃ W : World, W = ((w.alloc (.cells #[.pointer none] 40)).alloc (.cells #[.int .i64 0] 34)).alloc (.cells #[.int .i64 0] 3) := ⟨_, rfl⟩
  have kW : Kp [] w W := by rw [hW]; exact (Kp.alloc _ _ _).trans ((Kp.alloc _ _ _).trans (Kp.alloc _ _ _))
  have zW : W.heap.size = w.heap.size + 3 := by rw [hW]; simp
  have a0 : W.cell? ⟨w.heap.size, 0, none⟩ = some (.pointer none) := by rw [hW]; simp [go_sem]
  have a1 : W.cell? ⟨w.heap.size + 1, 0, none⟩ = some (.int .i64 0) := by rw [hW]; simp [go_sem]
  have a2 : W.cell? ⟨w.heap.size + 1 + 1, 0, none⟩ = some (.int .i64 0) := by rw [hW]; simp [go_sem]
  have f0 : W.frozen? ⟨w.heap.size, 0, none⟩ = false := by rw [hW]; simp [go_sem]
  have f1 : W.frozen? ⟨w.heap.size + 1, 0, none⟩ = false := by rw [hW]; simp [go_sem]
  have f2 : W.frozen? ⟨w.heap.size + 1 + 1, 0, none⟩ = false := by rw [hW]; simp [go_sem]
  rw [← hW]
  clear hW
  refine (read_one (hw.keep kW (by simp)) h0 hs h124 h41 hp).mono ?_
  rintro e w1 ⟨p, rfl, pt, k1⟩
  have b0 := (k1.cell (p := ⟨w.heap.size, 0, none⟩) (by simp; omega) (by simp)).trans a0
  have b1 := (k1.cell (p := ⟨w.heap.size + 1, 0, none⟩) (by simp; omega) (by simp)).trans a1
  have b2 := (k1.cell (p := ⟨w.heap.size + 1 + 1, 0, none⟩) (by simp; omega) (by simp)).trans a2
  have g0 := (k1.frozen (p := ⟨w.heap.size, 0, none⟩) (by simp; omega) (by simp)).trans f0
  have g1 := (k1.frozen (p := ⟨w.heap.size + 1, 0, none⟩) (by simp; omega) (by simp)).trans f1
  have g2 := (k1.frozen (p := ⟨w.heap.size + 1 + 1, 0, none⟩) (by simp; omega) (by simp)).trans f2
  clear a0 a1 a2 f0 f1 f2
  go_wp2_with fail
  refine leaves_cons (f := 17) (args := #[.pointer (some ⟨w.heap.size, 0, none⟩), .pointer (some ⟨w.heap.size + 1, 0, none⟩), .pointer (some ⟨w.heap.size + 1 + 1, 0, none⟩)]) (by simp) (by simp [go_sem]) ?_
  refine (catch_idle _ _ _ _).mono ?_
  rintro e u' w'' ⟨rfl, rfl, rfl⟩
  have K1 : Kp [w.heap.size, w.heap.size + 1, w.heap.size + 1 + 1] w1 (((w1.setCell ⟨w.heap.size, 0, none⟩ (.pointer (some ⟨p, 0, none⟩))).setCell ⟨w.heap.size + 1, 0, none⟩ (.int .i64 0)).setCell ⟨w.heap.size + 1 + 1, 0, none⟩ (.int .i64 0)) :=
    (Kp.setCell _ _ (by simp)).trans ((Kp.setCell _ _ (by simp)).trans (Kp.setCell _ _ (by simp)))
  have pt2 := pt.keep K1 (by intro x hx; simp at hx; omega)
  have K2 := Kp.own (x := w.heap.size) (Kp.own (x := w.heap.size + 1) (Kp.own (x := w.heap.size + 1 + 1) (S := [w.heap.size + 1, w.heap.size]) (((kW.trans k1).mono (by simp)).trans (K1.mono (by simp))) (by omega)) (by omega)) (by omega)
  simp [Leaves, settle, results, Tryd.results15, go_sem, b0, b1, b2]
  exact ⟨pt2.lower (by omega), K2⟩
end Go.Proofs.YtbakfojamdocgaaDoor
