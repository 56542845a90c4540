/- Reading a pattern that is one class, whole: the contract of Read. -/
import Derived.Test.YtbakfojamdocgaaDoorH
namespace Go.Proofs.YtbakfojamdocgaaDoor
open Go.RowKit

theorem nil_ahead_emit (v : Value) (w : World) : (nilAhead 228 82 v "ribbon/pattern.emit").run Tryd.prog w = .ok (some false) w := by kernel_rfl

abbrev ins0 (kind next other slot depth : Int) : List Value :=
  [.int .i64 kind, .int .i64 next, .int .i64 other, .int .i64 slot, .int .i64 depth, .int .u64 0, .int .u64 0, .int .u64 0, .int .u64 0]
theorem ins0_eq (kind next other slot depth : Int) : ins kind next other slot depth noBytes = ins0 kind next other slot depth := by simp [wd_none]
theorem listAdd0 {L n : Nat} {xs : List Value} {d dp : Nat} {w : World} (h : Ls w L n xs d dp) (hn : n ≤ 100000) (kind next other slot depth : Int) :
    Calls Tryd.prog 22 #[.pointer (some ⟨L, 0, none⟩), .agg (ins0 kind next other slot depth).toArray] w fun e w' => e = .returned (.int .i64 n) ∧ Ls w' L (n + 1) (xs ++ ins0 kind next other slot depth) d dp ∧ Below L w w' := by
  have := listAdd h hn kind next other slot depth noBytes
  rw [ins0_eq] at this
  exact this

/-- A pattern of n instructions lies in block p. -/
structure Pt (B : Nat) (w : World) (p n begin groups deepest : Nat) (xs : List Value) : Prop where
  lo : B ≤ p
  lt : p < w.heap.size
  code : ∃ g c, w.cell? ⟨p, 0, none⟩ = some (.slice (some ⟨g, 0, none⟩) n c) ∧ w.ownsRow B 74 9 (.slice (some ⟨g, 0, none⟩) n c) n xs
  c1 : w.cell? ⟨p, 1, none⟩ = some (.int .i64 begin)
  c2 : w.cell? ⟨p, 2, none⟩ = some (.int .i64 groups)
  c3 : w.cell? ⟨p, 3, none⟩ = some (.int .i64 deepest)

theorem ownsRow_lower {w : World} {base B size n : Nat} {e : TypeId} {v : Value} {xs : List Value} (h : w.ownsRow base e size v n xs) (hB : B ≤ base) : w.ownsRow B e size v n xs := by
  refine ⟨h.1, ?_⟩
  rcases h.2 with q | ⟨g, cap, cur, q1, q2, q3⟩
  · exact .inl q
  · exact .inr ⟨g, cap, cur, q1, Nat.le_trans hB q2, q3⟩

theorem ownsRow_keep {w w' : World} {S : List Nat} {base size n : Nat} {e : TypeId} {v : Value} {xs : List Value} (h : w.ownsRow base e size v n xs) (k : Kp S w w') (hS : ∀ x, x ∈ S → x < base) : w'.ownsRow base e size v n xs := by
  refine ⟨h.1, ?_⟩
  rcases h.2 with q | ⟨g, cap, cur, q1, q2, q3, q4⟩
  · exact .inl q
  · exact .inr ⟨g, cap, cur, q1, q2, (k.block g (lt_of_block q3) (fun hm => by have := hS g hm; omega)).trans q3, q4⟩

theorem Pt.keep {B : Nat} {w w' : World} {p n begin groups deepest : Nat} {xs : List Value} {S : List Nat} (h : Pt B w p n begin groups deepest xs) (k : Kp S w w') (hS : ∀ x, x ∈ S → x < B) : Pt B w' p n begin groups deepest xs := by
  obtain ⟨g, c, h1, h2⟩ := h.code
  have hp : p ∉ S := fun hm => by have := hS p hm; have := h.lo; omega
  exact ⟨h.lo, Nat.lt_of_lt_of_le h.lt k.size, ⟨g, c, (k.cell h.lt hp).trans h1, ownsRow_keep h2 k hS⟩, (k.cell h.lt hp).trans h.c1, (k.cell h.lt hp).trans h.c2, (k.cell h.lt hp).trans h.c3⟩

theorem Pt.lower {B B' : Nat} {w : World} {p n begin groups deepest : Nat} {xs : List Value} (h : Pt B w p n begin groups deepest xs) (hB : B' ≤ B) : Pt B' w p n begin groups deepest xs := by
  obtain ⟨g, c, h1, h2⟩ := h.code
  exact ⟨Nat.le_trans hB h.lo, h.lt, ⟨g, c, h1, ownsRow_lower h2 hB⟩, h.c1, h.c2, h.c3⟩

theorem Kp.then_below {w a c : World} {B : Nat} (h : Kp [] w a) (b : Below B a c) (hB : w.heap.size ≤ B) : Kp [] w c :=
  ⟨b.os.trans h.os, b.tape.trans h.tape, b.output.trans h.output, Nat.le_trans h.size b.size, fun k hk hn => (b.block k (by omega)).trans (h.block k hk hn)⟩

set_option maxRecDepth 100000 in
set_option maxHeartbeats 1000000 in
theorem read_one {src : ByteArray} {m : Nat → Bool} {w : World} (hw : Nm w) (h0 : 0 < src.size) (hs : src.size ≤ 100)
    (h124 : saw src 0 124 = false) (h41 : saw src 0 41 = false) (hp : ∀ b, b ≠ 0 → PieceOk b src 0 src.size 0 (oneV m)) :
    Calls Tryd.prog 18 #[.string src] w fun e w' => ∃ p, e = .returned (.pointer (some ⟨p, 0, none⟩)) ∧ Pt w.heap.size w' p 2 1 0 0 (ins0 6 0 0 0 0 ++ ins 0 0 0 0 0 m) ∧ Kp [] w w' := by
  have hb0 : w.heap.size ≠ 0 := by have := hw.lt; omega
  obtain ⟨o, ho⟩ : ∃ o : Obj, o = .cells #[.string src, .int .i64 0, .int .i64 0] 59 := ⟨_, rfl⟩
  have k0 := Kp.alloc [] w o
  have r0 : Rd (w.alloc o) w.heap.size src 0 0 := by
    rw [ho]; exact ⟨by simp, by omega, hs, by simp, by simp, by simp, fun i => by simp⟩
  have hz0 : (w.alloc o).heap.size = w.heap.size + 1 := by simp
  go_enter Tryd.func18, Tryd.ntmps18
  go_wp2_with fail
  rw [← ho]
  refine (whole_one r0 (hw.keep k0 (by simp)) hb0 h0 h124 h41 (hp _ hb0) rfl).mono ?_
  rintro e w1 ⟨q, r, c, rfl, hq1, hq2, hq3, hr1, hr2, hr3, r1, k1⟩
  have hm := size_of_branches
  have c2 := r1.c2
  go_wp2_with fail
  refine (branches_size m q r c _ hq3 hr3).mono ?_
  rintro e w2 ⟨rfl, k2⟩
  have hq3' := (k2.cell (p := ⟨q, 0, none⟩) hq2 (by simp)).trans hq3
  have hr3' := (k2.cell (p := ⟨r, 0, none⟩) hr2 (by simp)).trans hr3
  have r2 := r1.keep k2 (by simp)
  have c2' := r2.c2
  have hz2 := k2.size
  clear hq3 hr3 c2 hm
  go_wp2_with fail
  obtain ⟨ol, hol⟩ : ∃ o : Obj, o = .cells #[.slice none 0 0, .int .i64 0, .int .i64 0] 65 := ⟨_, rfl⟩
  have k3 := Kp.alloc [] w2 ol
  have l3 : Ls (w2.alloc ol) w2.heap.size 0 [] 0 0 := by
    rw [hol]; exact ⟨by simp, ⟨_, by simp, World.ownsRow_nil _ _ _ _, .inl rfl⟩, by simp, by simp, fun i => by simp⟩
  have hz3 : (w2.alloc ol).heap.size = w2.heap.size + 1 := by simp
  have hq4 := (k3.cell (p := ⟨q, 0, none⟩) (Nat.lt_of_lt_of_le hq2 hz2) (by simp)).trans hq3'
  have hr4 := (k3.cell (p := ⟨r, 0, none⟩) (Nat.lt_of_lt_of_le hr2 hz2) (by simp)).trans hr3'
  have r4 := r2.keep k3 (by simp)
  rw [← hol]
  have K3 : Kp [] w (w2.alloc ol) := (Kp.own (x := w.heap.size) ((k0.mono (by simp)).trans (k1.trans ((k2.mono (by simp)).trans (k3.mono (by simp))))) (Nat.le_refl _))
  generalize w2.alloc ol = w3 at *
  clear hq3' hr3' c2' k3 r2 hol
  have hm := emit_of_branches
  have hna := nil_ahead_emit
  have hmf : ∀ (fn : Fn) (first cap : Array Value) (w : World), (Instr.makeFunc fn first cap).run Tryd.prog w = .ok (.func fn first cap) w := fun _ _ _ _ => rfl
  go_region_with (first | (go_at_call 22; refine (listAdd0 (l3.keep (by exact Kp.drew _ _)) (by omega) 6 0 0 0 0).mono ?_; rintro e w4 ⟨rfl, l4, b4⟩) | (go_at_call 71; refine (branches_emit l4 (by omega) 0 m q r c ?_ ?_).mono ?_; exact (b4.cell (by exact (by omega : q < w2.heap.size))).trans hq4; exact (b4.cell (by exact (by omega : r < w2.heap.size))).trans hr4; rintro e w5 ⟨rfl, l5, b5⟩))
  all_goals
    have hlt : w.heap.size < w2.heap.size := Nat.lt_of_lt_of_le r1.lt hz2
    have g5 := ((b5.cell (p := ⟨w.heap.size, 2, none⟩) hlt).trans (b4.cell (p := ⟨w.heap.size, 2, none⟩) hlt)).trans r4.c2
    obtain ⟨v5, hv5, ho5, hf5⟩ := l5.code
    have hex : ∃ g c, v5 = .slice (some ⟨g, 0, none⟩) 2 c := by
      rcases hf5 with h | h
      · rw [h] at ho5; have := ho5.2; simp at this
      · exact h
    obtain ⟨g, cc, hg⟩ := hex
    rw [hg] at hv5 ho5
    have d5 := l5.c2
    have HO5 := hid ho5
    have B5 := hid (b4.trans b5)
    have L5 := hid l5.lt
    clear ho5 hf5 hg hq4 hr4 l3 l4 l5 b4 b5 r4 r1 hm hna hmf
    go_wp2
    go_ret
    have K5 := (K3.trans (Kp.drew _ _)).then_below B5.out (Nat.le_of_lt hlt)
    refine ⟨w5.heap.size, rfl, ⟨K5.size, by simp, ⟨g, cc, by simp, ownsRow_lower (HO5.out.alloc _) (by omega)⟩, by simp, by simp, by simp⟩, ?_⟩
    exact K5.trans (Kp.alloc _ _ _)
end Go.Proofs.YtbakfojamdocgaaDoor
