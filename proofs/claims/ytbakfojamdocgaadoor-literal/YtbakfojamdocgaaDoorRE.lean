/- A row of pieces, from readPattern on: contracts; its instructions as a chain. -/
import Derived.Test.YtbakfojamdocgaaDoorRD
import Derived.Test.YtbakfojamdocgaaDoorJ
import Derived.Test.YtbakfojamdocgaaDoorPD
namespace Go.Proofs.YtbakfojamdocgaaDoor
open Go.RowKit

theorem PtR.keep {B : Nat} {w w' : World} {p n groups deepest : Nat} {begin : Int} {xs : List Value} {S : List Nat} (h : PtR B w p n begin groups deepest xs) (k : Kp S w w') (hS : ∀ x, x ∈ S → x < B) : PtR B w' p n begin groups deepest xs := by
  have hn : p ∉ S := fun e => by have := hS p e; have := h.lo; omega
  obtain ⟨g, c, h1, h2⟩ := h.code
  exact ⟨h.lo, Nat.lt_of_lt_of_le h.lt k.size, ⟨g, c, (k.cell h.lt hn).trans h1, ownsRow_keep h2 k hS⟩, (k.cell h.lt hn).trans h.c1, (k.cell h.lt hn).trans h.c2, (k.cell h.lt hn).trans h.c3⟩
theorem PtR.lower {B B' : Nat} {w : World} {p n groups deepest : Nat} {begin : Int} {xs : List Value} (h : PtR B w p n begin groups deepest xs) (hB : B' ≤ B) : PtR B' w p n begin groups deepest xs := by
  obtain ⟨g, c, h1, h2⟩ := h.code
  exact ⟨Nat.le_trans hB h.lo, h.lt, ⟨g, c, h1, ownsRow_lower h2 hB⟩, h.c1, h.c2, h.c3⟩

set_option maxRecDepth 100000 in
set_option maxHeartbeats 1000000 in
theorem readPattern_row {src : ByteArray} {pcs : List Pc} {w : World} (hw : Nm w) (hs : src.size ≤ 100) (hlen : pcs.length ≤ 200) (hp : ∀ b, b ≠ 0 → RowOk b src 0 0 (pcs.map Pc.val)) :
    Calls Tryd.prog 15 #[.string src] w fun e w' => ∃ p, e = .returned (.tuple #[.pointer (some ⟨p, 0, none⟩), .int .i64 0, .int .i64 0]) ∧ PtR w.heap.size w' p (1 + pcs.length) (rowBegin pcs.reverse 1 0) 0 0 (ins0 6 0 0 0 0 ++ rowCode 0 pcs.reverse 1 0) ∧ Kp [] w w' := by
  have hmf : ∀ (fn : Fn) (first cap : Array Value) (w : World), (Instr.makeFunc fn first cap).run Tryd.prog w = .ok (.func fn first cap) w := fun _ _ _ _ => rfl
  go_enter_defers Tryd.func15, Tryd.ntmps15
  go_wp2_with fail
  obtain ⟨W, hW⟩ : ∃ W : World, W = ((w.alloc (.cells #[.pointer none] 40)).alloc (.cells #[.int .i64 0] 34)).alloc (.cells #[.int .i64 0] 3) := ⟨_, rfl⟩
  have kW : Kp [] w W := by rw [hW]; exact (Kp.alloc _ _ _).trans ((Kp.alloc _ _ _).trans (Kp.alloc _ _ _))
  have zW : W.heap.size = w.heap.size + 3 := by rw [hW]; simp
  have a0 : W.cell? ⟨w.heap.size, 0, none⟩ = some (.pointer none) := by rw [hW]; simp [go_sem]
  have a1 : W.cell? ⟨w.heap.size + 1, 0, none⟩ = some (.int .i64 0) := by rw [hW]; simp [go_sem]
  have a2 : W.cell? ⟨w.heap.size + 1 + 1, 0, none⟩ = some (.int .i64 0) := by rw [hW]; simp [go_sem]
  have f0 : W.frozen? ⟨w.heap.size, 0, none⟩ = false := by rw [hW]; simp [go_sem]
  have f1 : W.frozen? ⟨w.heap.size + 1, 0, none⟩ = false := by rw [hW]; simp [go_sem]
  have f2 : W.frozen? ⟨w.heap.size + 1 + 1, 0, none⟩ = false := by rw [hW]; simp [go_sem]
  rw [← hW]
  clear hW
  refine (read_row (hw.keep kW (by simp)) hs hlen hp).mono ?_
  rintro e w1 ⟨p, rfl, pt, k1⟩
  have b0 := (k1.cell (p := ⟨w.heap.size, 0, none⟩) (by simp; omega) (by simp)).trans a0
  have b1 := (k1.cell (p := ⟨w.heap.size + 1, 0, none⟩) (by simp; omega) (by simp)).trans a1
  have b2 := (k1.cell (p := ⟨w.heap.size + 1 + 1, 0, none⟩) (by simp; omega) (by simp)).trans a2
  have g0 := (k1.frozen (p := ⟨w.heap.size, 0, none⟩) (by simp; omega) (by simp)).trans f0
  have g1 := (k1.frozen (p := ⟨w.heap.size + 1, 0, none⟩) (by simp; omega) (by simp)).trans f1
  have g2 := (k1.frozen (p := ⟨w.heap.size + 1 + 1, 0, none⟩) (by simp; omega) (by simp)).trans f2
  clear a0 a1 a2 f0 f1 f2
  go_wp2_with fail
  refine leaves_cons (f := 17) (args := #[.pointer (some ⟨w.heap.size, 0, none⟩), .pointer (some ⟨w.heap.size + 1, 0, none⟩), .pointer (some ⟨w.heap.size + 1 + 1, 0, none⟩)]) (by simp) (by simp [go_sem]) ?_
  refine (catch_idle _ _ _ _).mono ?_
  rintro e u' w'' ⟨rfl, rfl, rfl⟩
  have K1 : Kp [w.heap.size, w.heap.size + 1, w.heap.size + 1 + 1] w1 (((w1.setCell ⟨w.heap.size, 0, none⟩ (.pointer (some ⟨p, 0, none⟩))).setCell ⟨w.heap.size + 1, 0, none⟩ (.int .i64 0)).setCell ⟨w.heap.size + 1 + 1, 0, none⟩ (.int .i64 0)) :=
    (Kp.setCell _ _ (by simp)).trans ((Kp.setCell _ _ (by simp)).trans (Kp.setCell _ _ (by simp)))
  have pt2 := pt.keep K1 (by intro x hx; simp at hx; omega)
  have K2 := Kp.own (x := w.heap.size) (Kp.own (x := w.heap.size + 1) (Kp.own (x := w.heap.size + 1 + 1) (S := [w.heap.size + 1, w.heap.size]) (((kW.trans k1).mono (by simp)).trans (K1.mono (by simp))) (by omega)) (by omega)) (by omega)
  simp [Leaves, settle, results, Tryd.results15, go_sem, b0, b1, b2]
  exact ⟨pt2.lower (by omega), K2⟩

/-- The code of a row. -/
def cdOf (pcs : List Pc) (i : Nat) : In :=
  if i = 0 then ⟨6, 0, 0, 0, 0, noBytes⟩ else match pcs.reverse[i - 1]? with
    | some p => if p.kind = 0 then ⟨0, i - 1, 0, 0, 0, p.m⟩ else ⟨p.kind, i - 1, 0, 0, 0, noBytes⟩
    | none => ⟨6, 0, 0, 0, 0, noBytes⟩

theorem rowBegin_eq : ∀ (ps : List Pc) (n : Nat) (next : Int), rowBegin ps n next = if ps = [] then next else ((n + ps.length - 1 : Nat) : Int)
  | [], _, _ => rfl
  | p :: ps, n, next => by
    have hne : p :: ps ≠ [] := by simp
    rw [rowBegin, rowBegin_eq ps (n + 1) n]
    by_cases h : ps = []
    · subst h; simp
    · rw [if_neg h, if_neg hne, List.length_cons]
      congr 1; omega

theorem pc_ins_len (p : Pc) (next : Int) (d : Nat) : (p.ins next d).length = 9 := by unfold Pc.ins; split <;> rfl

theorem rowCode_at (d : Nat) : ∀ (ps : List Pc) (n : Nat) (next : Int) (i : Nat) (p : Pc), ps[i]? = some p → ∀ j, j < 9 → (rowCode d ps n next)[i * 9 + j]? = (p.ins (if i = 0 then next else ((n + i - 1 : Nat) : Int)) d)[j]?
  | q :: ps, n, next, 0, p, h, j, hj => by
    have e : q = p := by simpa using h
    subst e
    rw [rowCode, Nat.zero_mul, Nat.zero_add, List.getElem?_append_left (by rw [pc_ins_len]; exact hj), if_pos rfl]
  | q :: ps, n, next, i + 1, p, h, j, hj => by
    have e : ps[i]? = some p := by simpa using h
    rw [rowCode, List.getElem?_append_right (by rw [pc_ins_len]; omega), pc_ins_len, show (i + 1) * 9 + j - 9 = i * 9 + j by omega, rowCode_at d ps (n + 1) n i p e j hj]
    congr 2
    by_cases h0 : i = 0
    · subst h0; simp
    · rw [if_neg h0, if_neg (by omega)]; congr 1; omega

theorem cd_of {B : Nat} {w : World} {p : Nat} {bg : Int} {pcs : List Pc} (pt : PtR B w p (1 + pcs.length) bg 0 0 (ins0 6 0 0 0 0 ++ rowCode 0 pcs.reverse 1 0)) (hk : ∀ q ∈ pcs, q.kind ≤ 2) :
    ∃ g c, Cd w p g c (1 + pcs.length) 0 (cdOf pcs) := by
  obtain ⟨g, c, h1, h2⟩ := pt.code
  have hl := (h2.lt g rfl).2
  have hz : ∀ i, wd noBytes i = 0 := wd_none
  have cell : ∀ a, a < 1 + pcs.length → ∀ j, j < 9 → w.cell? ⟨g, a * 9 + j, none⟩ = [Value.int .i64 (cdOf pcs a).kind, .int .i64 (cdOf pcs a).nx, .int .i64 (cdOf pcs a).ot, .int .i64 (cdOf pcs a).sl, .int .i64 (cdOf pcs a).dp, .int .u64 (wd (cdOf pcs a).m 0), .int .u64 (wd (cdOf pcs a).m 1), .int .u64 (wd (cdOf pcs a).m 2), .int .u64 (wd (cdOf pcs a).m 3)][j]? := by
    intro a ha j hj
    have hget : w.cell? ⟨g, a * 9 + j, none⟩ = (ins0 6 0 0 0 0 ++ rowCode 0 pcs.reverse 1 0)[a * 9 + j]? := h2.cellAt (a * 9 + j) (by omega)
    rw [hget]
    match a, ha with
    | 0, _ =>
      rw [Nat.zero_mul, Nat.zero_add, List.getElem?_append_left (by show j < 9; exact hj)]
      have e : cdOf pcs 0 = ⟨6, 0, 0, 0, 0, noBytes⟩ := by unfold cdOf; rw [if_pos rfl]
      rw [e]
      simp only [hz]
      rfl
    | i + 1, ha =>
      obtain ⟨q, hq⟩ : ∃ q, pcs.reverse[i]? = some q := ⟨pcs.reverse[i]'(by simp; omega), List.getElem?_eq_getElem (by simp; omega)⟩
      rw [List.getElem?_append_right (by show 9 ≤ _; omega), show (i + 1) * 9 + j - (ins0 6 0 0 0 0).length = i * 9 + j by show (i + 1) * 9 + j - 9 = _; omega, rowCode_at 0 pcs.reverse 1 0 i q hq j hj]
      have enx : (if i = 0 then (0 : Int) else ((1 + i - 1 : Nat) : Int)) = ((i : Nat) : Int) := by
        by_cases h0 : i = 0
        · subst h0; rfl
        · rw [if_neg h0]; congr 1; omega
      rw [enx]
      have e : cdOf pcs (i + 1) = if q.kind = 0 then ⟨0, i, 0, 0, 0, q.m⟩ else ⟨q.kind, i, 0, 0, 0, noBytes⟩ := by
        unfold cdOf
        rw [if_neg (by omega), show i + 1 - 1 = i by omega, hq]
      rw [e]
      unfold Pc.ins
      by_cases h0 : q.kind = 0
      · rw [if_pos h0, if_pos h0]; rfl
      · rw [if_neg h0, if_neg h0]
        simp only [hz]
        rfl
  have good : ∀ a, a < 1 + pcs.length → (cdOf pcs a).kind ≤ 6 ∧ (cdOf pcs a).nx < 1 + pcs.length ∧ (cdOf pcs a).ot < 1 + pcs.length ∧ (cdOf pcs a).sl < 20 ∧ (cdOf pcs a).dp ≤ 0 := by
    intro a ha
    match a, ha with
    | 0, _ => unfold cdOf; rw [if_pos rfl]; simp; omega
    | i + 1, ha =>
      obtain ⟨q, hq⟩ : ∃ q, pcs.reverse[i]? = some q := ⟨pcs.reverse[i]'(by simp; omega), List.getElem?_eq_getElem (by simp; omega)⟩
      have hm : q ∈ pcs := List.mem_reverse.1 (List.mem_of_getElem? hq)
      have := hk q hm
      unfold cdOf
      rw [if_neg (by omega), show i + 1 - 1 = i by omega, hq]
      by_cases h0 : q.kind = 0
      · simp only [h0, if_true]; simp; omega
      · simp only [h0, if_false]; simp; omega
  exact ⟨g, c, ⟨pt.lt, hl, h1, pt.c3, fun a ha => cell a ha 0 (by omega), fun a ha => cell a ha 1 (by omega), fun a ha => cell a ha 2 (by omega), fun a ha => cell a ha 3 (by omega), fun a ha => cell a ha 4 (by omega), fun a ha => cell a ha 5 (by omega), fun a ha => cell a ha 6 (by omega), fun a ha => cell a ha 7 (by omega), fun a ha => cell a ha 8 (by omega), good⟩⟩
end Go.Proofs.YtbakfojamdocgaaDoor
