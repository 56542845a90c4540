/- A pattern that is a row of pieces is read: contracts. -/
import Derived.Test.YtbakfojamdocgaaDoorRC
import Derived.Test.YtbakfojamdocgaaDoorYa
namespace Go.Proofs.YtbakfojamdocgaaDoor
open Go.RowKit

/-- A pattern of n instructions lies in block p; where it begins is an integer. -/
structure PtR (B : Nat) (w : World) (p n : Nat) (begin : Int) (groups deepest : Nat) (xs : List Value) : Prop where
  lo : B ≤ p
  lt : p < w.heap.size
  code : ∃ g c, w.cell? ⟨p, 0, none⟩ = some (.slice (some ⟨g, 0, none⟩) n c) ∧ w.ownsRow B 74 9 (.slice (some ⟨g, 0, none⟩) n c) n xs
  c1 : w.cell? ⟨p, 1, none⟩ = some (.int .i64 begin)
  c2 : w.cell? ⟨p, 2, none⟩ = some (.int .i64 groups)
  c3 : w.cell? ⟨p, 3, none⟩ = some (.int .i64 deepest)

set_option maxRecDepth 100000 in
set_option maxHeartbeats 1000000 in
theorem read_row {src : ByteArray} {pcs : List Pc} {w : World} (hw : Nm w) (hs : src.size ≤ 100) (hlen : pcs.length ≤ 200) (hp : ∀ b, b ≠ 0 → RowOk b src 0 0 (pcs.map Pc.val)) :
    Calls Tryd.prog 18 #[.string src] w fun e w' => ∃ p, e = .returned (.pointer (some ⟨p, 0, none⟩)) ∧ PtR w.heap.size w' p (1 + pcs.length) (rowBegin pcs.reverse 1 0) 0 0 (ins0 6 0 0 0 0 ++ rowCode 0 pcs.reverse 1 0) ∧ Kp [] w w' := by
  have hb0 : w.heap.size ≠ 0 := by have := hw.lt; omega
  obtain ⟨o, ho⟩ : ∃ o : Obj, o = .cells #[.string src, .int .i64 0, .int .i64 0] 59 := ⟨_, rfl⟩
  have k0 := Kp.alloc [] w o
  have r0 : Rd (w.alloc o) w.heap.size src 0 0 := by
    rw [ho]; exact ⟨by simp, by omega, hs, by simp, by simp, by simp, fun i => by simp⟩
  have hz0 : (w.alloc o).heap.size = w.heap.size + 1 := by simp
  go_enter Tryd.func18, Tryd.ntmps18
  go_wp2_with fail
  rw [← ho]
  refine (whole_row r0 (hw.keep k0 (by simp)) hb0 (hp _ hb0) (by simp; omega)).mono ?_
  rintro e w1 ⟨q, v, rfl, hq1, hq2, hq3, own1, r1, k1⟩
  rw [List.length_map] at own1
  have O1 := hid own1
  clear own1 hp
  have hm := size_of_branches
  have c2 := r1.c2
  go_wp2_with fail
  refine (branches_size_row hq3 O1.out hlen).mono ?_
  rintro e w2 ⟨rfl, k2⟩
  have hq3' := (k2.cell (p := ⟨q, 0, none⟩) hq2 (by simp)).trans hq3
  have O2 := hid (ownsRow_keep O1.out k2 (by simp))
  have hvw := fun g hg => (O1.out.lt g hg).2
  have r2 := r1.keep k2 (by simp)
  have c2' := r2.c2
  have hz2 := k2.size
  have hcmp : ¬ (300 : Int) < pcs.length := by omega
  clear hq3 c2 hm
  go_wp2_with fail
  obtain ⟨ol, hol⟩ : ∃ o : Obj, o = .cells #[.slice none 0 0, .int .i64 0, .int .i64 0] 65 := ⟨_, rfl⟩
  have k3 := Kp.alloc [] w2 ol
  have l3 : Ls (w2.alloc ol) w2.heap.size 0 [] 0 0 := by
    rw [hol]; exact ⟨by simp, ⟨_, by simp, World.ownsRow_nil _ _ _ _, .inl rfl⟩, by simp, by simp, fun i => by simp⟩
  have hz3 : (w2.alloc ol).heap.size = w2.heap.size + 1 := by simp
  have hq4 := (k3.cell (p := ⟨q, 0, none⟩) (Nat.lt_of_lt_of_le hq2 hz2) (by simp)).trans hq3'
  have O4 := hid (O2.out.alloc ol)
  have HVL : Hid (∀ g, v.ownBlock = some g → g < w2.heap.size) := hid (fun g hg => Nat.lt_of_lt_of_le (hvw g hg) hz2)
  clear hvw
  have r4 := r2.keep k3 (by simp)
  rw [← hol]
  have K3 : Kp [] w (w2.alloc ol) := (Kp.own (x := w.heap.size) ((k0.mono (by simp)).trans (k1.trans ((k2.mono (by simp)).trans (k3.mono (by simp))))) (Nat.le_refl _))
  generalize w2.alloc ol = w3 at *
  clear hq3' c2' k3 r2 hol
  have hm := emit_of_branches
  have hna := nil_ahead_emit
  have hmf : ∀ (fn : Fn) (first cap : Array Value) (w : World), (Instr.makeFunc fn first cap).run Tryd.prog w = .ok (.func fn first cap) w := fun _ _ _ _ => rfl
  have EM : Hid (∀ w4 : World, Ls w4 w2.heap.size (0 + 1) ([] ++ ins0 6 0 0 0 0) 0 0 → Below w2.heap.size w3.drew w4 → Calls Tryd.prog 71 #[.slice (some ⟨q, 0, none⟩) 1 1, .pointer (some ⟨w2.heap.size, 0, none⟩), .int .i64 0] w4 fun e w' => e = .returned (.int .i64 (rowBegin pcs.reverse (0 + 1) 0)) ∧ Ls w' w2.heap.size (0 + 1 + pcs.length) ([] ++ ins0 6 0 0 0 0 ++ rowCode 0 pcs.reverse (0 + 1) 0) 0 0 ∧ Below w2.heap.size w4 w') := hid (fun w4 l4 b4 => by
    have hq5 : q < w2.heap.size := by omega
    exact branches_emit_row l4 (by omega) 0 ((b4.cell (p := ⟨q, 0, none⟩) hq5).trans hq4) (owns_of_block O4.out (fun kk hkk _ => b4.block kk (HVL.out kk hkk))) hlen HVL.out)
  go_region_with (first | (go_at_call 22; refine (listAdd0 (l3.keep (by exact Kp.drew _ _)) (by omega) 6 0 0 0 0).mono ?_; rintro e w4 ⟨rfl, l4, b4⟩) | (go_at_call 71; refine (EM.out w4 l4 b4).mono ?_; rintro e w5 ⟨rfl, l5, b5⟩))
  all_goals
    have hlt : w.heap.size < w2.heap.size := Nat.lt_of_lt_of_le r1.lt hz2
    have g5 := ((b5.cell (p := ⟨w.heap.size, 2, none⟩) hlt).trans (b4.cell (p := ⟨w.heap.size, 2, none⟩) hlt)).trans r4.c2
    obtain ⟨v5, hv5, ho5, hf5⟩ := l5.code
    have hex : ∃ g c, v5 = .slice (some ⟨g, 0, none⟩) (0 + 1 + pcs.length) c := by
      rcases hf5 with h | h
      · rw [h] at ho5; have := ho5.2; simp at this
      · exact h
    obtain ⟨g, cc, hg⟩ := hex
    rw [hg] at hv5 ho5
    have d5 := l5.c2
    have HO5 := hid ho5
    have B5 := hid (b4.trans b5)
    have L5 := hid l5.lt
    clear ho5 hf5 hg hq4 l3 l4 l5 b4 b5 r4 r1 hm hna hmf
    go_wp2
    go_ret
    have K5 := (K3.trans (Kp.drew _ _)).then_below B5.out (Nat.le_of_lt hlt)
    refine ⟨w5.heap.size, rfl, ⟨K5.size, by simp, ⟨g, cc, by simp, ownsRow_lower (HO5.out.alloc _) (by omega)⟩, by simp, by simp, by simp⟩, ?_⟩
    exact K5.trans (Kp.alloc _ _ _)
end Go.Proofs.YtbakfojamdocgaaDoor
