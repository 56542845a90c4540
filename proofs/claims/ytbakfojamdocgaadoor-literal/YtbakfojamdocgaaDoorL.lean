/- The finder: whether no way ahead came here. -/
import Derived.Test.YtbakfojamdocgaaDoorK
namespace Go.Proofs.YtbakfojamdocgaaDoor
open Go.RowKit

set_option maxRecDepth 100000 in
set_option maxHeartbeats 1000000 in
theorem first_yes {w : World} {f p t sb N a dp dp1 m1 tk idx pl pl1 : Nat} {sv : Int}
    (c0 : w.cell? ⟨f, 0, none⟩ = some (.pointer (some ⟨p, 0, none⟩))) (c2 : w.cell? ⟨f, 2, none⟩ = some (.int .i64 pl)) (c6 : w.cell? ⟨f, 6, none⟩ = some (.slice (some ⟨sb, 0, none⟩) N N))
    (p3 : w.cell? ⟨p, 3, none⟩ = some (.int .i64 dp)) (t0 : w.cell? ⟨t, 0, none⟩ = some (.int .i64 a)) (t1 : w.cell? ⟨t, 1, none⟩ = some (.int .i64 tk))
    (s0 : w.cell? ⟨sb, idx, none⟩ = some (.int .i64 sv)) (s1 : w.frozen? ⟨sb, idx, none⟩ = false) (hne : (sv == (pl1 : Int)) = false) (hix : idx < N) (hN : N ≤ 1000000) (hpl : pl1 ≤ 1000000)
    (e1 : (dp : Int) + 1 = dp1) (e2 : (a : Int) * dp1 = m1) (e3 : (m1 : Int) + tk = idx) (e4 : (pl : Int) + 1 = pl1) (hd : dp1 ≤ 1000000) (hm : m1 ≤ 1000000) :
    Calls Tryd.prog 27 #[.pointer (some ⟨f, 0, none⟩), .pointer (some ⟨t, 0, none⟩)] w fun e w' => e = .returned (.bool true) ∧ ∃ n, w' = (w.drewN n).setCell ⟨sb, idx, none⟩ (.int .i64 pl1) := by
  have w1 := wrap_i64_nat dp1 (by omega)
  have w2 := wrap_i64_nat m1 (by omega)
  have w3 := wrap_i64_nat idx (by omega)
  have w4 := wrap_i64_nat pl1 (by omega)
  go_enter Tryd.func27, Tryd.ntmps27
  go_wp2
  go_quiet (fail)
  go_wp2
  go_quiet (fail)
  go_wp2
  go_ret
  exact ⟨rfl, _, rfl⟩
end Go.Proofs.YtbakfojamdocgaaDoor
