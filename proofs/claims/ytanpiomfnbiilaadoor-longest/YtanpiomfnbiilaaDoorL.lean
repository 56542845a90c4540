/- The finder: whether no way ahead came here. -/
import Derived.Test.YtanpiomfnbiilaaDoorV
namespace Go.Proofs.YtanpiomfnbiilaaDoor
open Go.RowKit

theorem and_bit (m : Nat → Bool) (x : Nat) : bits .and .u64 (wd m (x / 64) : Int) (IntKind.u64.wrap (2 ^ (x % 64))) = if m x = true then ((2 ^ (x % 64) : Nat) : Int) else 0 := by
  have h1 := wd_lt m (x / 64)
  have h2 := two_pow_lt x
  rw [wrap_pow, u64_and_nat _ _ (wd_lt' _ _) (two_pow_lt' x)]
  have e : (wd m (x / 64)) &&& 2 ^ (x % 64) = if m x = true then 2 ^ (x % 64) else 0 := by
    have hx : x % 64 < 64 := Nat.mod_lt _ (by decide)
    apply Nat.eq_of_testBit_eq
    intro j
    rw [Nat.testBit_and, wd_bit, Nat.testBit_two_pow]
    by_cases hj : x % 64 = j
    · subst hj
      rw [Nat.div_add_mod]
      cases hm : m x <;> simp [hx]
    · cases hm : m x <;> simp [hj]
  rw [e]
  split <;> simp

theorem and_yes {m : Nat → Bool} {x : Nat} (h : m x = true) : (bits .and .u64 (wd m (x / 64) : Int) (IntKind.u64.wrap (2 ^ (x % 64))) == 0) = false := by
  rw [and_bit, if_pos h, beq_eq_false_iff_ne]
  have := Nat.two_pow_pos (x % 64)
  omega
theorem and_no {m : Nat → Bool} {x : Nat} (h : m x = false) : (bits .and .u64 (wd m (x / 64) : Int) (IntKind.u64.wrap (2 ^ (x % 64))) == 0) = true := by
  rw [and_bit, if_neg (by rw [h]; simp)]; rfl

set_option maxRecDepth 100000 in
set_option maxHeartbeats 1000000 in
theorem first_no {w : World} {f p g c n t sb N a dp dp1 m0 m1 m2 tk x pl : Nat} {v : Int}
    (c0 : w.cell? ⟨f, 0, none⟩ = some (.pointer (some ⟨p, 0, none⟩))) (c2 : w.cell? ⟨f, 2, none⟩ = some (.int .i64 pl)) (c6 : w.cell? ⟨f, 6, none⟩ = some (.slice (some ⟨sb, 0, none⟩) N N))
    (p0 : w.cell? ⟨p, 0, none⟩ = some (.slice (some ⟨g, 0, none⟩) n c)) (p3 : w.cell? ⟨p, 3, none⟩ = some (.int .i64 dp)) (t0 : w.cell? ⟨t, 0, none⟩ = some (.int .i64 a)) (t1 : w.cell? ⟨t, 1, none⟩ = some (.int .i64 tk))
    (s0 : w.cell? ⟨sb, x / 64, none⟩ = some (.int .u64 v)) (hix : x / 64 < N) (hN : N ≤ 1000000000)
    (e0 : (pl : Int) * n = m0) (e1 : (m0 : Int) + a = m1) (e2 : (dp : Int) + 1 = dp1) (e3 : (m1 : Int) * dp1 = m2) (e4 : (m2 : Int) + tk = x)
    (b0 : m0 ≤ 1000000000) (b1 : m1 ≤ 1000000000) (b2 : dp1 ≤ 1000000000) (b3 : m2 ≤ 1000000000) (b4 : x ≤ 1000000000)
    (hb : (bits .and .u64 v (IntKind.u64.wrap (2 ^ (x % 64))) == 0) = false) :
    Calls Tryd.prog 37 #[.pointer (some ⟨f, 0, none⟩), .pointer (some ⟨t, 0, none⟩)] w fun e w' => e = .returned (.bool false) ∧ Kp [] w w' := by
  have w0 := wrap_i64_nat m0 (by omega)
  have w1 := wrap_i64_nat m1 (by omega)
  have w2 := wrap_i64_nat dp1 (by omega)
  have w3 := wrap_i64_nat m2 (by omega)
  have w4 := wrap_i64_nat x (by omega)
  go_enter Tryd.func37, Tryd.ntmps37
  go_wp2
  go_quiet (fail)
  go_wp2
  go_quiet (fail)
  go_wp2
  go_ret
  exact ⟨rfl, Kp.drewN _ _ _⟩

set_option maxRecDepth 100000 in
set_option maxHeartbeats 1000000 in
theorem first_yes {w : World} {f p g c n t sb N a dp dp1 m0 m1 m2 tk x pl : Nat} {v : Int}
    (c0 : w.cell? ⟨f, 0, none⟩ = some (.pointer (some ⟨p, 0, none⟩))) (c2 : w.cell? ⟨f, 2, none⟩ = some (.int .i64 pl)) (c6 : w.cell? ⟨f, 6, none⟩ = some (.slice (some ⟨sb, 0, none⟩) N N))
    (p0 : w.cell? ⟨p, 0, none⟩ = some (.slice (some ⟨g, 0, none⟩) n c)) (p3 : w.cell? ⟨p, 3, none⟩ = some (.int .i64 dp)) (t0 : w.cell? ⟨t, 0, none⟩ = some (.int .i64 a)) (t1 : w.cell? ⟨t, 1, none⟩ = some (.int .i64 tk))
    (s0 : w.cell? ⟨sb, x / 64, none⟩ = some (.int .u64 v)) (s1 : w.frozen? ⟨sb, x / 64, none⟩ = false) (hix : x / 64 < N) (hN : N ≤ 1000000000)
    (e0 : (pl : Int) * n = m0) (e1 : (m0 : Int) + a = m1) (e2 : (dp : Int) + 1 = dp1) (e3 : (m1 : Int) * dp1 = m2) (e4 : (m2 : Int) + tk = x)
    (b0 : m0 ≤ 1000000000) (b1 : m1 ≤ 1000000000) (b2 : dp1 ≤ 1000000000) (b3 : m2 ≤ 1000000000) (b4 : x ≤ 1000000000)
    (hb : (bits .and .u64 v (IntKind.u64.wrap (2 ^ (x % 64))) == 0) = true) :
    Calls Tryd.prog 37 #[.pointer (some ⟨f, 0, none⟩), .pointer (some ⟨t, 0, none⟩)] w fun e w' => e = .returned (.bool true) ∧ ∃ k, w' = (w.drewN k).setCell ⟨sb, x / 64, none⟩ (.int .u64 (bits .or .u64 v (IntKind.u64.wrap (2 ^ (x % 64))))) := by
  have w0 := wrap_i64_nat m0 (by omega)
  have w1 := wrap_i64_nat m1 (by omega)
  have w2 := wrap_i64_nat dp1 (by omega)
  have w3 := wrap_i64_nat m2 (by omega)
  have w4 := wrap_i64_nat x (by omega)
  go_enter Tryd.func37, Tryd.ntmps37
  go_wp2
  go_quiet (fail)
  go_wp2
  go_quiet (fail)
  go_wp2
  go_ret
  exact ⟨rfl, _, rfl⟩
end Go.Proofs.YtanpiomfnbiilaaDoor
