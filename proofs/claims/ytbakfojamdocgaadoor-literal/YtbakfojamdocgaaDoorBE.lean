/- A byte as often as may be, once at least, alone in a pattern: the pattern is read. -/
import Derived.Test.YtbakfojamdocgaaDoorBC
import Derived.Test.YtbakfojamdocgaaDoorBD
namespace Go.Proofs.YtbakfojamdocgaaDoor
open Go.RowKit

set_option maxRecDepth 100000 in
set_option maxHeartbeats 1000000 in
theorem rep_row_size {B : Nat} {v : Value} {w : World} {m : Nat → Bool} (own : w.ownsRow B 61 1 v 1 [repV m]) :
    Calls Tryd.prog 74 #[v] w fun e w' => e = .returned (.int .i64 3) ∧ Kp [] w w' := by
  have hm1 := size_of_repeat
  rcases own_form own with ⟨_, q⟩ | ⟨r, c, rfl⟩
  · cases q
  have hc := row_at own 0 (repV m) rfl
  clear own
  go_enter Tryd.func74, Tryd.ntmps74
  go_wp2_with fail
  refine wp_loop_rounds 2 ?_
  rw [rounds_succ]
  go_wp2_with fail
  refine (rep_size m _).mono ?_
  rintro e w1 ⟨rfl, k1⟩
  go_wp2_with fail
  rw [rounds_succ]
  go_wp2_with fail
  go_ret
  exact ⟨by go_num, k1⟩

set_option maxRecDepth 100000 in
set_option maxHeartbeats 1000000 in
theorem rep_row_emit {B L : Nat} {v : Value} {w : World} {m : Nat → Bool} (h : Ls w L 1 (ins0 6 0 0 0 0) 0 0) (own : w.ownsRow B 61 1 v 1 [repV m]) :
    Calls Tryd.prog 73 #[v, .pointer (some ⟨L, 0, none⟩), .int .i64 0] w fun e w' => e = .returned (.int .i64 4) ∧ Ls w' L 5 (ins0 6 0 0 0 0 ++ ins0 4 3 0 0 0 ++ ins0 5 1 0 0 0 ++ ins 0 2 0 0 1 m ++ ins 0 1 0 0 0 m) 0 1 ∧ Below L w w' := by
  have hm1 := emit_of_repeat
  rcases own_form own with ⟨_, q⟩ | ⟨r, c, rfl⟩
  · cases q
  have hc := row_at own 0 (repV m) rfl
  have HL := hid h
  clear own h
  go_enter Tryd.func73, Tryd.ntmps73
  go_wp2_with fail
  refine wp_loop_rounds 2 ?_
  rw [rounds_succ]
  go_wp2_with fail
  refine (rep_emit HL.out m).mono ?_
  rintro e w1 ⟨rfl, l1, b1⟩
  have L1 := hid l1
  clear l1
  go_wp2_with fail
  rw [rounds_succ]
  go_wp2_with fail
  go_ret
  exact ⟨by go_num, L1.out, b1⟩

set_option maxRecDepth 100000 in
set_option maxHeartbeats 400000 in
theorem rep_branches_size {B q : Nat} {v : Value} {w : World} {m : Nat → Bool} (hq : w.cell? ⟨q, 0, none⟩ = some (.iface 86 v)) (own : w.ownsRow B 61 1 v 1 [repV m]) :
    Calls Tryd.prog 72 #[.slice (some ⟨q, 0, none⟩) 1 1] w fun e w' => e = .returned (.int .i64 3) ∧ Kp [] w w' := by
  have hm := size_of_row
  have OWN := hid own
  clear own
  go_enter Tryd.func72, Tryd.ntmps72
  go_wp2_with fail
  refine wp_loop_rounds 2 ?_
  rw [rounds_succ]
  go_wp2_with fail
  refine (rep_row_size OWN.out).mono ?_
  rintro e w1 ⟨rfl, k1⟩
  go_wp2_with fail
  rw [rounds_succ]
  go_wp2_with fail
  go_ret
  exact ⟨by go_num, k1⟩

set_option maxRecDepth 100000 in
set_option maxHeartbeats 400000 in
theorem rep_branches_emit {B L q : Nat} {v : Value} {w : World} {m : Nat → Bool} (h : Ls w L 1 (ins0 6 0 0 0 0) 0 0) (hq : w.cell? ⟨q, 0, none⟩ = some (.iface 86 v)) (own : w.ownsRow B 61 1 v 1 [repV m]) :
    Calls Tryd.prog 71 #[.slice (some ⟨q, 0, none⟩) 1 1, .pointer (some ⟨L, 0, none⟩), .int .i64 0] w fun e w' => e = .returned (.int .i64 4) ∧ Ls w' L 5 (ins0 6 0 0 0 0 ++ ins0 4 3 0 0 0 ++ ins0 5 1 0 0 0 ++ ins 0 2 0 0 1 m ++ ins 0 1 0 0 0 m) 0 1 ∧ Below L w w' := by
  have hm := emit_of_row
  have OWN := hid own
  have HL := hid h
  clear own h
  go_enter Tryd.func71, Tryd.ntmps71
  go_wp2_with fail
  refine (rep_row_emit HL.out OWN.out).mono ?_
  rintro e w1 ⟨rfl, h1, b1⟩
  have H1 := hid h1
  clear hq h1
  go_wp2_with fail
  refine wp_loop_rounds 1 ?_
  rw [rounds_succ]
  go_wp2_with fail
  go_ret
  exact ⟨rfl, H1.out, b1⟩

theorem reads_plus {src : ByteArray} {m : Nat → Bool} (hp : ∀ b, b ≠ 0 → RowOk b src 0 0 [repV m]) : Reads src 0 5 4 1 (ins0 6 0 0 0 0 ++ ins0 4 3 0 0 0 ++ ins0 5 1 0 0 0 ++ ins 0 2 0 0 1 m ++ ins 0 1 0 0 0 m) := by
  intro w b hb hr hw
  refine (whole_row hr hw hb (hp b hb) (by simp)).mono ?_
  rintro e w1 ⟨q, v, rfl, hq1, hq2, hq3, own1, r1, k1⟩
  refine ⟨_, 3, rfl, r1, k1, by omega, ?_, ?_⟩
  · intro w2 k2
    exact rep_branches_size ((k2.cell (p := ⟨q, 0, none⟩) hq2 (by simp)).trans hq3) (ownsRow_keep own1 k2 (by simp))
  · intro w2 L k2 hL w4 b4 l4
    refine rep_branches_emit l4 ((b4.cell (p := ⟨q, 0, none⟩) (by show q < L; omega)).trans ((k2.cell (p := ⟨q, 0, none⟩) hq2 (by simp)).trans hq3)) (owns_of_block (ownsRow_keep own1 k2 (by simp)) (fun kk hkk _ => b4.block kk ?_))
    have := (own1.lt kk hkk).2
    omega
end Go.Proofs.YtbakfojamdocgaaDoor
