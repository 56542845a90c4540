/- The size of a pattern that is one class: contracts. -/
import Derived.Test.YtanpiomfnbiilaaDoorF
namespace Go.Proofs.YtanpiomfnbiilaaDoor
open Go.RowKit

set_option maxRecDepth 100000 in
set_option maxHeartbeats 400000 in
theorem one_size (m : Nat → Bool) (w : World) :
    Calls Tryd.prog 89 #[setV m] w fun e w' => e = .returned (.int .i64 1) ∧ Kp [] w w' := by
  go_enter Tryd.func89, Tryd.ntmps89
  go_wp2
  go_ret
  exact ⟨rfl, Kp.alloc _ _ _⟩

theorem size_of_one (v : Value) (w : World) : (method 240 108 v "ribbon/pattern.size").run Tryd.prog w = .ok (89, v) w := by kernel_rfl
theorem size_of_row (v : Value) (w : World) : (method 240 94 v "ribbon/pattern.size").run Tryd.prog w = .ok (81, v) w := by kernel_rfl
theorem size_of_branches (v : Value) (w : World) : (method 240 90 v "ribbon/pattern.size").run Tryd.prog w = .ok (79, v) w := by kernel_rfl
theorem emit_of_one (v : Value) (w : World) : (method 240 108 v "ribbon/pattern.emit").run Tryd.prog w = .ok (88, v) w := by kernel_rfl
theorem emit_of_row (v : Value) (w : World) : (method 240 94 v "ribbon/pattern.emit").run Tryd.prog w = .ok (80, v) w := by kernel_rfl
theorem emit_of_branches (v : Value) (w : World) : (method 240 90 v "ribbon/pattern.emit").run Tryd.prog w = .ok (78, v) w := by kernel_rfl

set_option maxRecDepth 100000 in
set_option maxHeartbeats 400000 in
theorem row_size (m : Nat → Bool) (r c : Nat) (w : World) (hc : w.cell? ⟨r, 0, none⟩ = some (oneV m)) :
    Calls Tryd.prog 81 #[.slice (some ⟨r, 0, none⟩) 1 c] w fun e w' => e = .returned (.int .i64 1) ∧ Kp [] w w' := by
  have hm := size_of_one
  go_enter Tryd.func81, Tryd.ntmps81
  go_wp2_with fail
  refine wp_loop_rounds 2 ?_
  rw [rounds_succ]
  go_wp2_with fail
  refine (one_size m _).mono ?_
  rintro e w1 ⟨rfl, k1⟩
  go_wp2_with fail
  rw [rounds_succ]
  go_wp2_with fail
  go_ret
  exact ⟨rfl, k1⟩

set_option maxRecDepth 100000 in
set_option maxHeartbeats 400000 in
theorem branches_size (m : Nat → Bool) (q r c : Nat) (w : World) (hq : w.cell? ⟨q, 0, none⟩ = some (.iface 94 (.slice (some ⟨r, 0, none⟩) 1 c))) (hc : w.cell? ⟨r, 0, none⟩ = some (oneV m)) :
    Calls Tryd.prog 79 #[.slice (some ⟨q, 0, none⟩) 1 1] w fun e w' => e = .returned (.int .i64 1) ∧ Kp [] w w' := by
  have hm := size_of_row
  go_enter Tryd.func79, Tryd.ntmps79
  go_wp2_with fail
  refine wp_loop_rounds 2 ?_
  rw [rounds_succ]
  go_wp2_with fail
  refine (row_size m r c _ hc).mono ?_
  rintro e w1 ⟨rfl, k1⟩
  clear hc
  go_wp2_with fail
  rw [rounds_succ]
  go_wp2_with fail
  go_ret
  exact ⟨rfl, k1⟩
end Go.Proofs.YtanpiomfnbiilaaDoor
