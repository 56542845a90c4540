/- The finder: instructions that a way goes on from at the same place: the text's beginning and end, a note, a turn's end. -/
import Derived.Test.YtanpiomfnbiilaaDoorGB
namespace Go.Proofs.YtanpiomfnbiilaaDoor
open Go.RowKit

set_option maxRecDepth 100000 in
set_option maxHeartbeats 1000000 in
theorem begin_no {w : World} {f p t g n c a pl : Nat} (c0 : w.cell? ⟨f, 0, none⟩ = some (.pointer (some ⟨p, 0, none⟩))) (c2 : w.cell? ⟨f, 2, none⟩ = some (.int .i64 pl))
    (p0 : w.cell? ⟨p, 0, none⟩ = some (.slice (some ⟨g, 0, none⟩) n c)) (t0 : w.cell? ⟨t, 0, none⟩ = some (.int .i64 a)) (ha : a < n) (i0 : w.cell? ⟨g, a * 9, none⟩ = some (.int .i64 1)) (hp : 0 < pl) :
    Calls Tryd.prog 38 #[.pointer (some ⟨f, 0, none⟩), .pointer (some ⟨t, 0, none⟩)] w fun e w' => e = .returned (.bool false) ∧ Kp [] w w' := by
  have hne : ¬ pl = 0 := by omega
  go_enter Tryd.func38, Tryd.ntmps38
  go_wp2
  go_quiet (fail)
  go_wp2
  all_goals go_ret
  all_goals exact ⟨rfl, Kp.drewN _ _ _⟩

set_option maxRecDepth 100000 in
set_option maxHeartbeats 1000000 in
theorem begin_yes {w : World} {f p t g n c a nx : Nat} (c0 : w.cell? ⟨f, 0, none⟩ = some (.pointer (some ⟨p, 0, none⟩))) (c2 : w.cell? ⟨f, 2, none⟩ = some (.int .i64 (0 : Nat)))
    (p0 : w.cell? ⟨p, 0, none⟩ = some (.slice (some ⟨g, 0, none⟩) n c)) (t0 : w.cell? ⟨t, 0, none⟩ = some (.int .i64 a)) (ha : a < n) (i0 : w.cell? ⟨g, a * 9, none⟩ = some (.int .i64 1)) (f0 : w.frozen? ⟨t, 0, none⟩ = false) (i1 : w.cell? ⟨g, a * 9 + 1, none⟩ = some (.int .i64 nx)) :
    Calls Tryd.prog 38 #[.pointer (some ⟨f, 0, none⟩), .pointer (some ⟨t, 0, none⟩)] w fun e w' => e = .returned (.bool true) ∧ ∃ k, w' = (w.drewN k).setCell ⟨t, 0, none⟩ (.int .i64 nx) := by
  go_enter Tryd.func38, Tryd.ntmps38
  go_wp2
  go_quiet (fail)
  go_wp2
  all_goals go_ret
  all_goals exact ⟨rfl, _, rfl⟩

set_option maxRecDepth 100000 in
set_option maxHeartbeats 1000000 in
theorem end_no {w : World} {f p t g n c a pl : Nat} {text : ByteArray} (c0 : w.cell? ⟨f, 0, none⟩ = some (.pointer (some ⟨p, 0, none⟩))) (c2 : w.cell? ⟨f, 2, none⟩ = some (.int .i64 pl)) (c1 : w.cell? ⟨f, 1, none⟩ = some (.string text))
    (p0 : w.cell? ⟨p, 0, none⟩ = some (.slice (some ⟨g, 0, none⟩) n c)) (t0 : w.cell? ⟨t, 0, none⟩ = some (.int .i64 a)) (ha : a < n) (i0 : w.cell? ⟨g, a * 9, none⟩ = some (.int .i64 2)) (hne : ¬ pl = text.size) :
    Calls Tryd.prog 38 #[.pointer (some ⟨f, 0, none⟩), .pointer (some ⟨t, 0, none⟩)] w fun e w' => e = .returned (.bool false) ∧ Kp [] w w' := by
  go_enter Tryd.func38, Tryd.ntmps38
  go_wp2
  go_quiet (fail)
  go_wp2
  go_quiet (fail)
  go_wp2
  all_goals go_ret
  all_goals exact ⟨rfl, (Kp.drewN _ _ _).trans (Kp.drewN _ _ _)⟩

set_option maxRecDepth 100000 in
set_option maxHeartbeats 1000000 in
theorem end_yes {w : World} {f p t g n c a pl nx : Nat} {text : ByteArray} (c0 : w.cell? ⟨f, 0, none⟩ = some (.pointer (some ⟨p, 0, none⟩))) (c2 : w.cell? ⟨f, 2, none⟩ = some (.int .i64 pl)) (c1 : w.cell? ⟨f, 1, none⟩ = some (.string text))
    (p0 : w.cell? ⟨p, 0, none⟩ = some (.slice (some ⟨g, 0, none⟩) n c)) (t0 : w.cell? ⟨t, 0, none⟩ = some (.int .i64 a)) (ha : a < n) (i0 : w.cell? ⟨g, a * 9, none⟩ = some (.int .i64 2)) (f0 : w.frozen? ⟨t, 0, none⟩ = false) (i1 : w.cell? ⟨g, a * 9 + 1, none⟩ = some (.int .i64 nx)) (hp : pl = text.size) :
    Calls Tryd.prog 38 #[.pointer (some ⟨f, 0, none⟩), .pointer (some ⟨t, 0, none⟩)] w fun e w' => e = .returned (.bool true) ∧ ∃ k, w' = (w.drewN k).setCell ⟨t, 0, none⟩ (.int .i64 nx) := by
  subst hp
  go_enter Tryd.func38, Tryd.ntmps38
  go_wp2
  go_quiet (fail)
  go_wp2
  go_quiet (fail)
  go_wp2
  all_goals go_ret
  all_goals exact ⟨rfl, _, rfl⟩

set_option maxRecDepth 100000 in
set_option maxHeartbeats 1000000 in
theorem turn_no {w : World} {f p t g n c a tk dp : Nat} (c0 : w.cell? ⟨f, 0, none⟩ = some (.pointer (some ⟨p, 0, none⟩))) 
    (p0 : w.cell? ⟨p, 0, none⟩ = some (.slice (some ⟨g, 0, none⟩) n c)) (t0 : w.cell? ⟨t, 0, none⟩ = some (.int .i64 a)) (ha : a < n) (i0 : w.cell? ⟨g, a * 9, none⟩ = some (.int .i64 5)) (t1 : w.cell? ⟨t, 1, none⟩ = some (.int .i64 tk)) (i4 : w.cell? ⟨g, a * 9 + 4, none⟩ = some (.int .i64 dp)) (hp : tk ≤ dp) :
    Calls Tryd.prog 38 #[.pointer (some ⟨f, 0, none⟩), .pointer (some ⟨t, 0, none⟩)] w fun e w' => e = .returned (.bool false) ∧ Kp [] w w' := by
  go_enter Tryd.func38, Tryd.ntmps38
  go_wp2
  go_quiet (fail)
  go_wp2
  go_quiet (fail)
  go_wp2
  all_goals go_ret
  all_goals exact ⟨rfl, (Kp.drewN _ _ _).trans (Kp.drewN _ _ _)⟩

set_option maxRecDepth 100000 in
set_option maxHeartbeats 1000000 in
theorem turn_yes {w : World} {f p t g n c a tk dp nx : Nat} (c0 : w.cell? ⟨f, 0, none⟩ = some (.pointer (some ⟨p, 0, none⟩))) 
    (p0 : w.cell? ⟨p, 0, none⟩ = some (.slice (some ⟨g, 0, none⟩) n c)) (t0 : w.cell? ⟨t, 0, none⟩ = some (.int .i64 a)) (ha : a < n) (i0 : w.cell? ⟨g, a * 9, none⟩ = some (.int .i64 5)) (f0 : w.frozen? ⟨t, 0, none⟩ = false) (i1 : w.cell? ⟨g, a * 9 + 1, none⟩ = some (.int .i64 nx)) (t1 : w.cell? ⟨t, 1, none⟩ = some (.int .i64 tk)) (f1 : w.frozen? ⟨t, 1, none⟩ = false) (i4 : w.cell? ⟨g, a * 9 + 4, none⟩ = some (.int .i64 dp)) (hp : ¬ tk ≤ dp) (htg : t ≠ g) (htf : t ≠ f) (htp : t ≠ p) :
    Calls Tryd.prog 38 #[.pointer (some ⟨f, 0, none⟩), .pointer (some ⟨t, 0, none⟩)] w fun e w' => e = .returned (.bool true) ∧ ∃ k, w' = ((w.drewN k).setCell ⟨t, 1, none⟩ (.int .i64 dp)).setCell ⟨t, 0, none⟩ (.int .i64 nx) := by
  go_enter Tryd.func38, Tryd.ntmps38
  go_wp2
  go_quiet (fail)
  go_wp2
  go_quiet (fail)
  go_wp2
  all_goals go_ret
  all_goals exact ⟨rfl, _, rfl⟩

set_option maxRecDepth 100000 in
set_option maxHeartbeats 1000000 in
theorem note_any {w : World} {f p t g n c a pl sl nx : Nat} {vo : Value} (c0 : w.cell? ⟨f, 0, none⟩ = some (.pointer (some ⟨p, 0, none⟩))) (c2 : w.cell? ⟨f, 2, none⟩ = some (.int .i64 pl))
    (p0 : w.cell? ⟨p, 0, none⟩ = some (.slice (some ⟨g, 0, none⟩) n c)) (t0 : w.cell? ⟨t, 0, none⟩ = some (.int .i64 a)) (ha : a < n) (i0 : w.cell? ⟨g, a * 9, none⟩ = some (.int .i64 3)) (f0 : w.frozen? ⟨t, 0, none⟩ = false) (i1 : w.cell? ⟨g, a * 9 + 1, none⟩ = some (.int .i64 nx)) (i3 : w.cell? ⟨g, a * 9 + 3, none⟩ = some (.int .i64 sl)) (hs : sl < 20) (ts : w.cell? ⟨t, 2 + sl, none⟩ = some vo) (fs : w.frozen? ⟨t, 2 + sl, none⟩ = false) (htg : t ≠ g) (htf : t ≠ f) (htp : t ≠ p) :
    Calls Tryd.prog 38 #[.pointer (some ⟨f, 0, none⟩), .pointer (some ⟨t, 0, none⟩)] w fun e w' => e = .returned (.bool true) ∧ ∃ k, w' = ((w.drewN k).setCell ⟨t, 2 + sl, none⟩ (.int .i64 pl)).setCell ⟨t, 0, none⟩ (.int .i64 nx) := by
  go_enter Tryd.func38, Tryd.ntmps38
  go_wp2
  go_quiet (fail)
  go_wp2

  go_region
  all_goals go_wp2
  all_goals go_ret
  all_goals exact ⟨rfl, _, rfl⟩

end Go.Proofs.YtanpiomfnbiilaaDoor
