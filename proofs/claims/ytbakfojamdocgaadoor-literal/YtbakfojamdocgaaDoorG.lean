/- The size of a pattern that is one class: contracts. -/
import Derived.Test.YtbakfojamdocgaaDoorF
namespace Go.Proofs.YtbakfojamdocgaaDoor
open Go.RowKit

set_option maxRecDepth 100000 in
set_option maxHeartbeats 400000 in
theorem one_size (m : Nat → Bool) (w : World) :
    Calls Tryd.prog 82 #[setV m] w fun e w' => e = .returned (.int .i64 1) ∧ Kp [] w w' := by
  go_enter Tryd.func82, Tryd.ntmps82
  go_wp2
  go_ret
  exact ⟨rfl, Kp.alloc _ _ _⟩

theorem size_of_one (v : Value) (w : World) : (method 228 96 v "ribbon/pattern.size").run Tryd.prog w = .ok (82, v) w := by kernel_rfl
theorem size_of_row (v : Value) (w : World) : (method 228 86 v "ribbon/pattern.size").run Tryd.prog w = .ok (74, v) w := by kernel_rfl
theorem size_of_branches (v : Value) (w : World) : (method 228 82 v "ribbon/pattern.size").run Tryd.prog w = .ok (72, v) w := by kernel_rfl
theorem emit_of_one (v : Value) (w : World) : (method 228 96 v "ribbon/pattern.emit").run Tryd.prog w = .ok (81, v) w := by kernel_rfl
theorem emit_of_row (v : Value) (w : World) : (method 228 86 v "ribbon/pattern.emit").run Tryd.prog w = .ok (73, v) w := by kernel_rfl
theorem emit_of_branches (v : Value) (w : World) : (method 228 82 v "ribbon/pattern.emit").run Tryd.prog w = .ok (71, v) w := by kernel_rfl

set_option maxRecDepth 100000 in
set_option maxHeartbeats 400000 in
theorem row_size (m : Nat → Bool) (r c : Nat) (w : World) (hc : w.cell? ⟨r, 0, none⟩ = some (oneV m)) :
    Calls Tryd.prog 74 #[.slice (some ⟨r, 0, none⟩) 1 c] w fun e w' => e = .returned (.int .i64 1) ∧ Kp [] w w' := by
  have hm := size_of_one
  go_enter Tryd.func74, Tryd.ntmps74
  go_wp2_with fail
  refine wp_loop_rounds 2 ?_
  rw [rounds_succ]
  go_wp2_with fail
  refine (one_size m _).mono ?_
  rintro e w1 ⟨rfl, k1⟩
  go_wp2_with fail
  rw [rounds_succ]
  go_wp2_with fail
  go_ret
  exact ⟨rfl, k1⟩

set_option maxRecDepth 100000 in
set_option maxHeartbeats 400000 in
theorem branches_size (m : Nat → Bool) (q r c : Nat) (w : World) (hq : w.cell? ⟨q, 0, none⟩ = some (.iface 86 (.slice (some ⟨r, 0, none⟩) 1 c))) (hc : w.cell? ⟨r, 0, none⟩ = some (oneV m)) :
    Calls Tryd.prog 72 #[.slice (some ⟨q, 0, none⟩) 1 1] w fun e w' => e = .returned (.int .i64 1) ∧ Kp [] w w' := by
  have hm := size_of_row
  go_enter Tryd.func72, Tryd.ntmps72
  go_wp2_with fail
  refine wp_loop_rounds 2 ?_
  rw [rounds_succ]
  go_wp2_with fail
  refine (row_size m r c _ hc).mono ?_
  rintro e w1 ⟨rfl, k1⟩
  clear hc
  go_wp2_with fail
  rw [rounds_succ]
  go_wp2_with fail
  go_ret
  exact ⟨rfl, k1⟩
end Go.Proofs.YtbakfojamdocgaaDoor
