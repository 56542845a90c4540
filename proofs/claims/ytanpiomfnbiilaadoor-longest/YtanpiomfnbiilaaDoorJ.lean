/- A pattern is read, whatever its branches are: Read, caught and readPattern out of what is known of 'whole', 'size', 'emit'; nothing gives up. -/
import Derived.Test.YtanpiomfnbiilaaDoorI
import Derived.Defers
import Derived.Recover
namespace Go.Proofs.YtanpiomfnbiilaaDoor
open Go.RowKit

/-- A pattern of n instructions lies in block p; where it begins is an integer. -/
structure PtR (B : Nat) (w : World) (p n : Nat) (begin : Int) (groups deepest : Nat) (xs : List Value) : Prop where
  lo : B ≤ p
  lt : p < w.heap.size
  code : ∃ g c, w.cell? ⟨p, 0, none⟩ = some (.slice (some ⟨g, 0, none⟩) n c) ∧ w.ownsRow B 74 9 (.slice (some ⟨g, 0, none⟩) n c) n xs
  c1 : w.cell? ⟨p, 1, none⟩ = some (.int .i64 begin)
  c2 : w.cell? ⟨p, 2, none⟩ = some (.int .i64 groups)
  c3 : w.cell? ⟨p, 3, none⟩ = some (.int .i64 deepest)

theorem PtR.keep {B : Nat} {w w' : World} {p n groups deepest : Nat} {begin : Int} {xs : List Value} {S : List Nat} (h : PtR B w p n begin groups deepest xs) (k : Kp S w w') (hS : ∀ x, x ∈ S → x < B) : PtR B w' p n begin groups deepest xs := by
  have hn : p ∉ S := fun e => by have := hS p e; have := h.lo; omega
  obtain ⟨g, c, h1, h2⟩ := h.code
  exact ⟨h.lo, Nat.lt_of_lt_of_le h.lt k.size, ⟨g, c, (k.cell h.lt hn).trans h1, ownsRow_keep h2 k hS⟩, (k.cell h.lt hn).trans h.c1, (k.cell h.lt hn).trans h.c2, (k.cell h.lt hn).trans h.c3⟩
theorem PtR.lower {B B' : Nat} {w : World} {p n groups deepest : Nat} {begin : Int} {xs : List Value} (h : PtR B w p n begin groups deepest xs) (hB : B' ≤ B) : PtR B' w p n begin groups deepest xs := by
  obtain ⟨g, c, h1, h2⟩ := h.code
  exact ⟨Nat.le_trans hB h.lo, h.lt, ⟨g, c, h1, ownsRow_lower h2 hB⟩, h.c1, h.c2, h.c3⟩

/-- The text is read as branches that have these n instructions. -/
def Reads (src : ByteArray) (from_ groups n : Nat) (bg : Int) (deepest : Nat) (xs : List Value) : Prop :=
  ∀ (w : World) (b : Nat), b ≠ 0 → Rd w b src from_ 0 → Nm w →
    Calls Tryd.prog 23 #[.pointer (some ⟨b, 0, none⟩)] w fun e w' => ∃ (V : Value) (sz : Nat), e = .returned (.iface 90 V) ∧ Rd w' b src src.size groups ∧ Kp [b] w w' ∧ sz ≤ 300 ∧
      (∀ w2, Kp [] w' w2 → Calls Tryd.prog 79 #[V] w2 fun e w3 => e = .returned (.int .i64 sz) ∧ Kp [] w2 w3) ∧
      (∀ w2 L, Kp [] w' w2 → w'.heap.size ≤ L → ∀ w4, Below L w2 w4 → Ls w4 L 1 (ins0 6 0 0 0 0) 0 0 →
        Calls Tryd.prog 78 #[V, .pointer (some ⟨L, 0, none⟩), .int .i64 0] w4 fun e w5 => e = .returned (.int .i64 bg) ∧ Ls w5 L n xs 0 deepest ∧ Below L w4 w5)

set_option maxRecDepth 100000 in
set_option maxHeartbeats 1000000 in
theorem read_gen {src : ByteArray} {fr groups n : Nat} {bg : Int} {deepest : Nat} {xs : List Value} {w : World} (hw : Nm w) (hs : src.size ≤ 2000) (hf : fr ≤ src.size) (h1 : src.size ≤ 100 + fr) (hn : 0 < n) (hp : Reads src fr groups n bg deepest xs) :
    Calls Tryd.prog 19 #[.string src, .int .i64 (fr : Int)] w fun e w' => ∃ p, e = .returned (.pointer (some ⟨p, 0, none⟩)) ∧ PtR w.heap.size w' p n bg groups deepest xs ∧ Kp [] w w' := by
  have hb0 : w.heap.size ≠ 0 := by have := hw.lt; omega
  obtain ⟨o, ho⟩ : ∃ o : Obj, o = .cells #[.string src, .int .i64 (fr : Int), .int .i64 2, .int .i64 0] 59 := ⟨_, rfl⟩
  have k0 := Kp.alloc [] w o
  have r0 : Rd (w.alloc o) w.heap.size src fr 0 := by
    rw [ho]; exact ⟨by simp, hf, hs, by simp, by simp, by simp, by simp, fun i => by simp⟩
  have hlen : IntKind.i64.wrap ((src.size : Int) - (fr : Int)) = ((src.size - fr : Nat) : Int) := by rw [IntKind.wrap_i64]; omega
  have hlen2 : ¬ (100 : Int) < ((src.size - fr : Nat) : Int) := by omega
  have hz0 : (w.alloc o).heap.size = w.heap.size + 1 := by simp
  go_enter Tryd.func19, Tryd.ntmps19
  go_wp2_with fail
  rw [← ho]
  refine (hp _ _ hb0 r0 (hw.keep k0 (by simp))).mono ?_
  rintro e w1 ⟨V, sz, rfl, r1, k1, hsz, hsize, hemit⟩
  have HE := hid hemit
  clear hp hemit
  have hm := size_of_branches
  have c2 := r1.c2
  go_wp2_with fail
  refine (hsize _ (Kp.refl _ _)).mono ?_
  rintro e w2 ⟨rfl, k2⟩
  have r2 := r1.keep k2 (by simp)
  have c2' := r2.c2
  have hz2 := k2.size
  have hcmp : ¬ (300 : Int) < sz := by omega
  clear c2 hm hsize
  go_wp2_with fail
  obtain ⟨ol, hol⟩ : ∃ o : Obj, o = .cells #[.slice none 0 0, .int .i64 0, .int .i64 0] 65 := ⟨_, rfl⟩
  have k3 := Kp.alloc [] w2 ol
  have l3 : Ls (w2.alloc ol) w2.heap.size 0 [] 0 0 := by
    rw [hol]; exact ⟨by simp, ⟨_, by simp, World.ownsRow_nil _ _ _ _, .inl rfl⟩, by simp, by simp, fun i => by simp⟩
  have hz3 : (w2.alloc ol).heap.size = w2.heap.size + 1 := by simp
  have r4 := r2.keep k3 (by simp)
  rw [← hol]
  have K3 : Kp [] w (w2.alloc ol) := (Kp.own (x := w.heap.size) ((k0.mono (by simp)).trans (k1.trans ((k2.mono (by simp)).trans (k3.mono (by simp))))) (Nat.le_refl _))
  have K13 := k2.trans k3
  generalize w2.alloc ol = w3 at *
  clear c2' k3 r2 hol
  have hm := emit_of_branches
  have hna := nil_ahead_emit
  have hmf : ∀ (fn : Fn) (first cap : Array Value) (w : World), (Instr.makeFunc fn first cap).run Tryd.prog w = .ok (.func fn first cap) w := fun _ _ _ _ => rfl
  have EM : Hid (∀ w4 : World, Ls w4 w2.heap.size (0 + 1) ([] ++ ins0 6 0 0 0 0) 0 0 → Below w2.heap.size w3.drew w4 → Calls Tryd.prog 78 #[V, .pointer (some ⟨w2.heap.size, 0, none⟩), .int .i64 0] w4 fun e w' => e = .returned (.int .i64 bg) ∧ Ls w' w2.heap.size n xs 0 deepest ∧ Below w2.heap.size w4 w') := hid (fun w4 l4 b4 =>
    HE.out w3.drew w2.heap.size (K13.trans (Kp.drew _ _)) hz2 w4 b4 l4)
  go_region_with (first | (go_at_call 24; refine (listAdd0 (l3.keep (by exact Kp.drew _ _)) (by omega) 6 0 0 0 0).mono ?_; rintro e w4 ⟨rfl, l4, b4⟩) | (go_at_call 78; refine (EM.out w4 l4 b4).mono ?_; rintro e w5 ⟨rfl, l5, b5⟩))
  all_goals
    have hlt : w.heap.size < w2.heap.size := Nat.lt_of_lt_of_le r1.lt hz2
    have g5 := ((b5.cell (p := ⟨w.heap.size, 3, none⟩) hlt).trans (b4.cell (p := ⟨w.heap.size, 3, none⟩) hlt)).trans r4.c2
    obtain ⟨v5, hv5, ho5, hf5⟩ := l5.code
    have hex : ∃ g c, v5 = .slice (some ⟨g, 0, none⟩) n c := by
      rcases ho5.2 with ⟨_, h⟩ | ⟨g, c, _, h, _⟩
      · omega
      · exact ⟨g, c, h⟩
    obtain ⟨g, cc, hg⟩ := hex
    rw [hg] at hv5 ho5
    have d5 := l5.c2
    have HO5 := hid ho5
    have B5 := hid (b4.trans b5)
    have L5 := hid l5.lt
    clear ho5 hf5 hg l3 l4 l5 b4 b5 r4 r1 hm hna hmf
    go_wp2
    go_ret
    have K5 := (K3.trans (Kp.drew _ _)).then_below B5.out (Nat.le_of_lt hlt)
    refine ⟨w5.heap.size, rfl, ⟨K5.size, by simp, ⟨g, cc, by simp, ownsRow_lower (HO5.out.alloc _) (by omega)⟩, by simp, by simp, by simp⟩, ?_⟩
    exact K5.trans (Kp.alloc _ _ _)

set_option maxRecDepth 100000 in
set_option maxHeartbeats 1000000 in
theorem catch_idle (p q r : Addr) (w : World) :
    CallsD Tryd.prog 22 #[.pointer (some p), .pointer (some q), .pointer (some r)] .returning w fun e u' w' => e = .returned (.tuple #[]) ∧ u' = .returning ∧ w' = w := by
  refine callsD_of_wpS Tryd.func22 rfl fun c₀ cs hu => ?_
  apply wpS_seq
  apply wpS_region
  simp [wpOpsS, go_sem, recoverD, hu, Tryd.ntmps22, Exit.thenS]
  refine wpS_of_wp ?_
  go_wp2
  cases c₀
  simp_all [bodyPostS, results, Tryd.results22]

set_option maxRecDepth 100000 in
set_option maxHeartbeats 1000000 in
theorem reading_gen {src : ByteArray} {groups n : Nat} {bg : Int} {deepest : Nat} {xs : List Value} {w : World} {a : Nat} (ha : w.cell? ⟨a, 0, none⟩ = some (.string src)) (hw : Nm w) (hs : src.size ≤ 100) (hn : 0 < n) (hp : Reads src 0 groups n bg deepest xs) :
    Calls Tryd.prog 18 #[.pointer (some ⟨a, 0, none⟩)] w fun e w' => ∃ p, e = .returned (.pointer (some ⟨p, 0, none⟩)) ∧ PtR w.heap.size w' p n bg groups deepest xs ∧ Kp [] w w' := by
  go_enter Tryd.func18, Tryd.ntmps18
  go_wp2_with fail
  refine (read_gen (fr := 0) hw (by omega) (by omega) (by omega) hn hp).mono ?_
  rintro e w1 ⟨p, rfl, pt, k1⟩
  go_wp2_with fail
  go_ret
  exact ⟨p, rfl, pt, k1⟩

set_option maxRecDepth 100000 in
set_option maxHeartbeats 1000000 in
theorem caught_gen {src : ByteArray} {groups n : Nat} {bg : Int} {deepest : Nat} {xs : List Value} {w : World} {a : Nat} (ha : w.cell? ⟨a, 0, none⟩ = some (.string src)) (hw : Nm w) (hs : src.size ≤ 100) (hn : 0 < n) (hp : Reads src 0 groups n bg deepest xs) :
    Calls Tryd.prog 17 #[.func (.func 18) #[] #[.pointer (some ⟨a, 0, none⟩)]] w fun e w' => ∃ p, e = .returned (.tuple #[.pointer (some ⟨p, 0, none⟩), .int .i64 0, .int .i64 0]) ∧ PtR w.heap.size w' p n bg groups deepest xs ∧ Kp [] w w' := by
  have hmf : ∀ (fn : Fn) (first cap : Array Value) (w : World), (Instr.makeFunc fn first cap).run Tryd.prog w = .ok (.func fn first cap) w := fun _ _ _ _ => rfl
  go_enter_defers Tryd.func17, Tryd.ntmps17
  go_wp2_with fail
  obtain ⟨W, hW⟩ : ∃ W : World, W = ((w.alloc (.cells #[.pointer none] 40)).alloc (.cells #[.int .i64 0] 34)).alloc (.cells #[.int .i64 0] 3) := ⟨_, rfl⟩
  have kW : Kp [] w W := by rw [hW]; exact (Kp.alloc _ _ _).trans ((Kp.alloc _ _ _).trans (Kp.alloc _ _ _))
  have zW : W.heap.size = w.heap.size + 3 := by rw [hW]; simp
  have a0 : W.cell? ⟨w.heap.size, 0, none⟩ = some (.pointer none) := by rw [hW]; simp [go_sem]
  have a1 : W.cell? ⟨w.heap.size + 1, 0, none⟩ = some (.int .i64 0) := by rw [hW]; simp [go_sem]
  have a2 : W.cell? ⟨w.heap.size + 1 + 1, 0, none⟩ = some (.int .i64 0) := by rw [hW]; simp [go_sem]
  have f0 : W.frozen? ⟨w.heap.size, 0, none⟩ = false := by rw [hW]; simp [go_sem]
  have f1 : W.frozen? ⟨w.heap.size + 1, 0, none⟩ = false := by rw [hW]; simp [go_sem]
  have f2 : W.frozen? ⟨w.heap.size + 1 + 1, 0, none⟩ = false := by rw [hW]; simp [go_sem]
  rw [← hW]
  clear hW
  refine (reading_gen ((kW.cell (p := ⟨a, 0, none⟩) (World.block_lt_of_cell? _ _ ha) (by simp)).trans ha) (hw.keep kW (by simp)) hs hn hp).mono ?_
  rintro e w1 ⟨p, rfl, pt, k1⟩
  have b0 := (k1.cell (p := ⟨w.heap.size, 0, none⟩) (by simp; omega) (by simp)).trans a0
  have b1 := (k1.cell (p := ⟨w.heap.size + 1, 0, none⟩) (by simp; omega) (by simp)).trans a1
  have b2 := (k1.cell (p := ⟨w.heap.size + 1 + 1, 0, none⟩) (by simp; omega) (by simp)).trans a2
  have g0 := (k1.frozen (p := ⟨w.heap.size, 0, none⟩) (by simp; omega) (by simp)).trans f0
  have g1 := (k1.frozen (p := ⟨w.heap.size + 1, 0, none⟩) (by simp; omega) (by simp)).trans f1
  have g2 := (k1.frozen (p := ⟨w.heap.size + 1 + 1, 0, none⟩) (by simp; omega) (by simp)).trans f2
  clear a0 a1 a2 f0 f1 f2
  go_wp2_with fail
  refine leaves_cons (f := 22) (args := #[.pointer (some ⟨w.heap.size, 0, none⟩), .pointer (some ⟨w.heap.size + 1, 0, none⟩), .pointer (some ⟨w.heap.size + 1 + 1, 0, none⟩)]) (by simp) (by simp [go_sem]) ?_
  refine (catch_idle _ _ _ _).mono ?_
  rintro e u' w'' ⟨rfl, rfl, rfl⟩
  have K1 : Kp [w.heap.size, w.heap.size + 1, w.heap.size + 1 + 1] w1 (((w1.setCell ⟨w.heap.size, 0, none⟩ (.pointer (some ⟨p, 0, none⟩))).setCell ⟨w.heap.size + 1, 0, none⟩ (.int .i64 0)).setCell ⟨w.heap.size + 1 + 1, 0, none⟩ (.int .i64 0)) :=
    (Kp.setCell _ _ (by simp)).trans ((Kp.setCell _ _ (by simp)).trans (Kp.setCell _ _ (by simp)))
  have pt2 := pt.keep K1 (by intro x hx; simp at hx; omega)
  have K2 := Kp.own (x := w.heap.size) (Kp.own (x := w.heap.size + 1) (Kp.own (x := w.heap.size + 1 + 1) (S := [w.heap.size + 1, w.heap.size]) (((kW.trans k1).mono (by simp)).trans (K1.mono (by simp))) (by omega)) (by omega)) (by omega)
  simp [Leaves, settle, results, Tryd.results17, go_sem, b0, b1, b2]
  exact ⟨pt2.lower (by omega), K2⟩

set_option maxRecDepth 100000 in
set_option maxHeartbeats 1000000 in
theorem readPattern_gen {src : ByteArray} {groups n : Nat} {bg : Int} {deepest : Nat} {xs : List Value} {w : World} (hw : Nm w) (hs : src.size ≤ 100) (hn : 0 < n) (hp : Reads src 0 groups n bg deepest xs) :
    Calls Tryd.prog 15 #[.string src] w fun e w' => ∃ p, e = .returned (.tuple #[.pointer (some ⟨p, 0, none⟩), .int .i64 0, .int .i64 0]) ∧ PtR w.heap.size w' p n bg groups deepest xs ∧ Kp [] w w' := by
  have hmf : ∀ (fn : Fn) (first cap : Array Value) (w : World), (Instr.makeFunc fn first cap).run Tryd.prog w = .ok (.func fn first cap) w := fun _ _ _ _ => rfl
  have k0 := Kp.alloc [] w (.cells #[.string src] 9)
  go_enter Tryd.func15, Tryd.ntmps15
  go_wp2_with fail
  refine (caught_gen (a := w.heap.size) (by simp) (hw.keep k0 (by simp)) hs hn hp).mono ?_
  rintro e w1 ⟨p, rfl, pt, k1⟩
  go_wp2_with fail
  go_ret3
  exact ⟨p, rfl, pt.lower k0.size, k0.trans k1⟩
end Go.Proofs.YtanpiomfnbiilaaDoor
