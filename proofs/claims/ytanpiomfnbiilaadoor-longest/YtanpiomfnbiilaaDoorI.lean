/- What lies in memory when a pattern was read; rows that lie on. -/
import Derived.Test.YtanpiomfnbiilaaDoorH
namespace Go.Proofs.YtanpiomfnbiilaaDoor
open Go.RowKit

theorem nil_ahead_emit (v : Value) (w : World) : (nilAhead 240 90 v "ribbon/pattern.emit").run Tryd.prog w = .ok (some false) w := by kernel_rfl

abbrev ins0 (kind next other slot depth : Int) : List Value :=
  [.int .i64 kind, .int .i64 next, .int .i64 other, .int .i64 slot, .int .i64 depth, .int .u64 0, .int .u64 0, .int .u64 0, .int .u64 0]
theorem ins0_eq (kind next other slot depth : Int) : ins kind next other slot depth noBytes = ins0 kind next other slot depth := by simp [wd_none]
theorem listAdd0 {L n : Nat} {xs : List Value} {d dp : Nat} {w : World} (h : Ls w L n xs d dp) (hn : n ≤ 100000) (kind next other slot depth : Int) :
    Calls Tryd.prog 24 #[.pointer (some ⟨L, 0, none⟩), .agg (ins0 kind next other slot depth).toArray] w fun e w' => e = .returned (.int .i64 n) ∧ Ls w' L (n + 1) (xs ++ ins0 kind next other slot depth) d dp ∧ Below L w w' := by
  have := listAdd h hn kind next other slot depth noBytes
  rw [ins0_eq] at this
  exact this

/-- A pattern of n instructions lies in block p. -/
structure Pt (B : Nat) (w : World) (p n begin groups deepest : Nat) (xs : List Value) : Prop where
  lo : B ≤ p
  lt : p < w.heap.size
  code : ∃ g c, w.cell? ⟨p, 0, none⟩ = some (.slice (some ⟨g, 0, none⟩) n c) ∧ w.ownsRow B 74 9 (.slice (some ⟨g, 0, none⟩) n c) n xs
  c1 : w.cell? ⟨p, 1, none⟩ = some (.int .i64 begin)
  c2 : w.cell? ⟨p, 2, none⟩ = some (.int .i64 groups)
  c3 : w.cell? ⟨p, 3, none⟩ = some (.int .i64 deepest)

theorem ownsRow_lower {w : World} {base B size n : Nat} {e : TypeId} {v : Value} {xs : List Value} (h : w.ownsRow base e size v n xs) (hB : B ≤ base) : w.ownsRow B e size v n xs := by
  refine ⟨h.1, ?_⟩
  rcases h.2 with q | ⟨g, cap, cur, q1, q2, q3⟩
  · exact .inl q
  · exact .inr ⟨g, cap, cur, q1, Nat.le_trans hB q2, q3⟩

theorem ownsRow_keep {w w' : World} {S : List Nat} {base size n : Nat} {e : TypeId} {v : Value} {xs : List Value} (h : w.ownsRow base e size v n xs) (k : Kp S w w') (hS : ∀ x, x ∈ S → x < base) : w'.ownsRow base e size v n xs := by
  refine ⟨h.1, ?_⟩
  rcases h.2 with q | ⟨g, cap, cur, q1, q2, q3, q4⟩
  · exact .inl q
  · exact .inr ⟨g, cap, cur, q1, q2, (k.block g (lt_of_block q3) (fun hm => by have := hS g hm; omega)).trans q3, q4⟩

theorem Pt.keep {B : Nat} {w w' : World} {p n begin groups deepest : Nat} {xs : List Value} {S : List Nat} (h : Pt B w p n begin groups deepest xs) (k : Kp S w w') (hS : ∀ x, x ∈ S → x < B) : Pt B w' p n begin groups deepest xs := by
  obtain ⟨g, c, h1, h2⟩ := h.code
  have hp : p ∉ S := fun hm => by have := hS p hm; have := h.lo; omega
  exact ⟨h.lo, Nat.lt_of_lt_of_le h.lt k.size, ⟨g, c, (k.cell h.lt hp).trans h1, ownsRow_keep h2 k hS⟩, (k.cell h.lt hp).trans h.c1, (k.cell h.lt hp).trans h.c2, (k.cell h.lt hp).trans h.c3⟩

theorem Pt.lower {B B' : Nat} {w : World} {p n begin groups deepest : Nat} {xs : List Value} (h : Pt B w p n begin groups deepest xs) (hB : B' ≤ B) : Pt B' w p n begin groups deepest xs := by
  obtain ⟨g, c, h1, h2⟩ := h.code
  exact ⟨Nat.le_trans hB h.lo, h.lt, ⟨g, c, h1, ownsRow_lower h2 hB⟩, h.c1, h.c2, h.c3⟩

theorem Kp.then_below {w a c : World} {B : Nat} (h : Kp [] w a) (b : Below B a c) (hB : w.heap.size ≤ B) : Kp [] w c :=
  ⟨b.os.trans h.os, b.tape.trans h.tape, b.output.trans h.output, Nat.le_trans h.size b.size, fun k hk hn => (b.block k (by omega)).trans (h.block k hk hn)⟩
end Go.Proofs.YtanpiomfnbiilaaDoor
