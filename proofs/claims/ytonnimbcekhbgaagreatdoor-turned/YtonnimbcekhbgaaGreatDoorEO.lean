/- A script is compiled. -/
import Derived.Test.YtonnimbcekhbgaaGreatDoorEQToEN
import Derived.Defers
import Derived.Recover
namespace Go.Proofs.YtonnimbcekhbgaaGreatDoor
open Go.RowKit

/-- A script in memory, its four fields from place o of block b on; all of it lies in blocks from lo to below hi. -/
structure Scr (lo hi : Nat) (w : World) (b o : Nat) (σ : Sst) : Prop where
  blo : lo ≤ b
  bhi : b < hi
  hi_le : hi ≤ w.heap.size
  c0 : w.cell? ⟨b, o, none⟩ = some (.bool σ.quiet)
  c1 : w.cell? ⟨b, o + 1, none⟩ = some σ.vc
  c2 : w.cell? ⟨b, o + 2, none⟩ = some σ.vn
  c3 : w.cell? ⟨b, o + 3, none⟩ = some (.int .i64 σ.ranges)
  o4 : w.ownsRow lo 100 23 σ.vc σ.cs.length σ.cs.flatten
  o5 : w.ownsRow lo 9 1 σ.vn σ.ns.length (σ.ns.map .string)
  h4 : ∀ g, σ.vc.ownBlock = some g → g < hi
  h5 : ∀ g, σ.vn.ownBlock = some g → g < hi
  len : ∀ c ∈ σ.cs, c.length = 23
  fx : ∀ f ∈ σ.fs, w.heap[f.1]? = some f.2 ∧ lo ≤ f.1 ∧ f.1 < hi

section
variable {lo hi b o : Nat} {w w' : World} {σ : Sst}
theorem Scr.keep {S : List Nat} (h : Scr lo hi w b o σ) (k : Kp S w w') (hS : ∀ x ∈ S, x < lo ∨ hi ≤ x) : Scr lo hi w' b o σ := by
  have hh : ∀ p, lo ≤ p → p < hi → w'.heap[p]? = w.heap[p]? := fun p h1 h2 => k.block p (Nat.lt_of_lt_of_le h2 h.hi_le) (fun e => by have := hS p e; omega)
  have hb := hh b h.blo h.bhi
  have hc : ∀ j, w'.cell? ⟨b, j, none⟩ = w.cell? ⟨b, j, none⟩ := fun j => World.cell?_of_block hb
  exact ⟨h.blo, h.bhi, Nat.le_trans h.hi_le k.size, (hc _).trans h.c0, (hc _).trans h.c1, (hc _).trans h.c2, (hc _).trans h.c3, own_block h.o4 (fun p hp => hh p (own_lt h.o4 hp).1 (h.h4 p hp)), own_block h.o5 (fun p hp => hh p (own_lt h.o5 hp).1 (h.h5 p hp)), h.h4, h.h5, h.len, fun f hf => ⟨(hh f.1 (h.fx f hf).2.1 (h.fx f hf).2.2).trans (h.fx f hf).1, (h.fx f hf).2⟩⟩
theorem Scr.lower {lo' : Nat} (h : Scr lo hi w b o σ) (hl : lo' ≤ lo) : Scr lo' hi w b o σ :=
  ⟨Nat.le_trans hl h.blo, h.bhi, h.hi_le, h.c0, h.c1, h.c2, h.c3, own_lower h.o4 hl, own_lower h.o5 hl, h.h4, h.h5, h.len, fun f hf => ⟨(h.fx f hf).1, Nat.le_trans hl (h.fx f hf).2.1, (h.fx f hf).2.2⟩⟩
theorem Sr.scr {w0 : World} {src : ByteArray} {k : Nat} (h : Sr w0 w b src k σ) : Scr w0.heap.size w.heap.size w b 3 σ :=
  ⟨h.r.bk.lo 0 b rfl, h.cur.lt, Nat.le_refl _, h.c.c3, h.c.c4, h.c.c5, h.c.c6, h.r.o4, h.r.o5, fun _ hg => (own_lt h.r.o4 hg).2, fun _ hg => (own_lt h.r.o5 hg).2, fun c hc => (h.r.len c hc).1, fun f hf => ⟨(h.r.fx f hf).1, (h.r.fx f hf).2.1, lt_blk (h.r.fx f hf).1⟩⟩
/-- The four fields are copied to a new block. -/
theorem Scr.copy (h : Scr lo hi w b o σ) (hw : hi = w.heap.size) : Scr lo (hi + 1) (w.alloc (.cells #[.bool σ.quiet, σ.vc, σ.vn, .int .i64 σ.ranges] 52)) w.heap.size 0 σ := by
  have B := Bl.alloc w [.bool σ.quiet, σ.vc, σ.vn, .int .i64 σ.ranges] 52
  have k := h.keep (Kp.alloc [] w (.cells #[.bool σ.quiet, σ.vc, σ.vn, .int .i64 σ.ranges] 52)) (fun _ e => by cases e)
  exact ⟨by have := h.blo; have := h.bhi; omega, by omega, by rw [hw]; simp, B.at_ 0 _ rfl, B.at_ 1 _ rfl, B.at_ 2 _ rfl, B.at_ 3 _ rfl, k.o4, k.o5, fun g hg => by have := h.h4 g hg; omega, fun g hg => by have := h.h5 g hg; omega, h.len, fun f hf => ⟨(k.fx f hf).1, (k.fx f hf).2.1, by have := (k.fx f hf).2.2; omega⟩⟩
end

set_option maxRecDepth 100000 in
set_option maxHeartbeats 1000000 in
theorem catchS_idle (p q r : Addr) (w : World) :
    CallsD Tryz.prog 32 #[.pointer (some p), .pointer (some q), .pointer (some r)] .returning w fun e u' w' => e = .returned (.tuple #[]) ∧ u' = .returning ∧ w' = w := by
  refine callsD_of_wpS Tryz.func32 rfl fun c₀ cs hu => ?_
  apply wpS_seq
  apply wpS_region
  simp [wpOpsS, go_sem, recoverD, hu, Tryz.ntmps32, Exit.thenS]
  refine wpS_of_wp ?_
  go_wp2
  cases c₀
  simp_all [bodyPostS, results, Tryz.results32]

/-- What a script is: how it is read. -/
structure Script (src : ByteArray) (T : Sst → Sst → Prop) : Prop where
  size : src.size ≤ 2000
  cmds : ∃ m, m ≤ 2000 ∧ ∀ w0 b, Cmds w0 b src m 0 T
  fin : ∀ σ σ', Fresh src σ → T σ σ' → σ'.bs = [] ∧ σ'.gs = []

/-- What has come of the reading, for those who use it. -/
def Got (w w' : World) (b o : Nat) (src : ByteArray) (T : Sst → Sst → Prop) : Prop := ∃ σ σ', Fresh src σ ∧ T σ σ' ∧ Scr w.heap.size w'.heap.size w' b o σ' ∧ Kp [] w w'

set_option maxRecDepth 100000 in
set_option maxHeartbeats 1000000 in
theorem readingS {src : ByteArray} {T : Sst → Sst → Prop} {w : World} {a : Nat} (ha : w.cell? ⟨a, 0, none⟩ = some (.string src)) (h : Script src T) :
    Calls Tryz.prog 25 #[.pointer (some ⟨a, 0, none⟩)] w fun e w' => ∃ b, e = .returned (.pointer (some ⟨b, 3, none⟩)) ∧ Got w w' b 3 src T := by
  obtain ⟨m, hm, hc⟩ := h.cmds
  have H := hid (read_v h.size (hc w) hm h.fin)
  clear h hc hm
  go_enter Tryz.func25, Tryz.ntmps25
  go_wp2_with fail
  refine H.out.mono ?_
  rintro e w1 ⟨p, rfl, b, σ, σ', rfl, fr, hT, s1⟩
  go_wp2_with fail
  go_ret
  exact ⟨b, rfl, σ, σ', fr, hT, s1.scr, s1.r.kp⟩

set_option maxRecDepth 100000 in
set_option maxHeartbeats 1000000 in
theorem caughtS {src : ByteArray} {T : Sst → Sst → Prop} {w : World} {a : Nat} (ha : w.cell? ⟨a, 0, none⟩ = some (.string src)) (h : Script src T) :
    Calls Tryz.prog 24 #[.func (.func 25) #[] #[.pointer (some ⟨a, 0, none⟩)]] w fun e w' => ∃ b, e = .returned (.tuple #[.pointer (some ⟨b, 3, none⟩), .int .i64 0, .int .i64 0]) ∧ Got w w' b 3 src T := by
  have hmf : ∀ (fn : Fn) (first cap : Array Value) (w : World), (Instr.makeFunc fn first cap).run Tryz.prog w = .ok (.func fn first cap) w := fun _ _ _ _ => rfl
  go_enter_defers Tryz.func24, Tryz.ntmps24
  go_wp2_with fail
  obtain ⟨W, hW⟩ : ∃ W : World, W = ((w.alloc (.cells #[.pointer none] 45)).alloc (.cells #[.int .i64 0] 36)).alloc (.cells #[.int .i64 0] 3) := ⟨_, rfl⟩
  have kW : Kp [] w W := by rw [hW]; exact (Kp.alloc _ _ _).trans ((Kp.alloc _ _ _).trans (Kp.alloc _ _ _))
  have zW : W.heap.size = w.heap.size + 3 := by rw [hW]; simp
  have a0 : W.cell? ⟨w.heap.size, 0, none⟩ = some (.pointer none) := by rw [hW]; simp [go_sem]
  have a1 : W.cell? ⟨w.heap.size + 1, 0, none⟩ = some (.int .i64 0) := by rw [hW]; simp [go_sem]
  have a2 : W.cell? ⟨w.heap.size + 1 + 1, 0, none⟩ = some (.int .i64 0) := by rw [hW]; simp [go_sem]
  have f0 : W.frozen? ⟨w.heap.size, 0, none⟩ = false := by rw [hW]; simp [go_sem]
  have f1 : W.frozen? ⟨w.heap.size + 1, 0, none⟩ = false := by rw [hW]; simp [go_sem]
  have f2 : W.frozen? ⟨w.heap.size + 1 + 1, 0, none⟩ = false := by rw [hW]; simp [go_sem]
  rw [← hW]
  clear hW
  refine (readingS ((kW.cell (p := ⟨a, 0, none⟩) (World.block_lt_of_cell? _ _ ha) (by simp)).trans ha) h).mono ?_
  rintro e w1 ⟨p, rfl, σ, σ', fr, hT, sc, k1⟩
  have b0 := (k1.cell (p := ⟨w.heap.size, 0, none⟩) (by simp; omega) (by simp)).trans a0
  have b1 := (k1.cell (p := ⟨w.heap.size + 1, 0, none⟩) (by simp; omega) (by simp)).trans a1
  have b2 := (k1.cell (p := ⟨w.heap.size + 1 + 1, 0, none⟩) (by simp; omega) (by simp)).trans a2
  have g0 := (k1.frozen (p := ⟨w.heap.size, 0, none⟩) (by simp; omega) (by simp)).trans f0
  have g1 := (k1.frozen (p := ⟨w.heap.size + 1, 0, none⟩) (by simp; omega) (by simp)).trans f1
  have g2 := (k1.frozen (p := ⟨w.heap.size + 1 + 1, 0, none⟩) (by simp; omega) (by simp)).trans f2
  clear a0 a1 a2 f0 f1 f2
  go_wp2_with fail
  refine leaves_cons (f := 32) (args := #[.pointer (some ⟨w.heap.size, 0, none⟩), .pointer (some ⟨w.heap.size + 1, 0, none⟩), .pointer (some ⟨w.heap.size + 1 + 1, 0, none⟩)]) (by simp) (by simp [go_sem]) ?_
  refine (catchS_idle _ _ _ _).mono ?_
  rintro e u' w'' ⟨rfl, rfl, rfl⟩
  have K1 : Kp [w.heap.size, w.heap.size + 1, w.heap.size + 1 + 1] w1 (((w1.setCell ⟨w.heap.size, 0, none⟩ (.pointer (some ⟨p, 3, none⟩))).setCell ⟨w.heap.size + 1, 0, none⟩ (.int .i64 0)).setCell ⟨w.heap.size + 1 + 1, 0, none⟩ (.int .i64 0)) :=
    (Kp.setCell _ _ (by simp)).trans ((Kp.setCell _ _ (by simp)).trans (Kp.setCell _ _ (by simp)))
  have sc2 := sc.keep K1 (by intro x hx; simp at hx; omega)
  have K2 := Kp.own (x := w.heap.size) (Kp.own (x := w.heap.size + 1) (Kp.own (x := w.heap.size + 1 + 1) (S := [w.heap.size + 1, w.heap.size]) (((kW.trans k1).mono (by simp)).trans (K1.mono (by simp))) (by omega)) (by omega)) (by omega)
  simp [Leaves, settle, results, Tryz.results24, go_sem, b0, b1, b2]
  exact ⟨σ, σ', fr, hT, by simpa [World.setCell] using sc2.lower (by omega), K2⟩

set_option maxRecDepth 100000 in
set_option maxHeartbeats 1000000 in
theorem readScript_v {src : ByteArray} {T : Sst → Sst → Prop} {w : World} (h : Script src T) :
    Calls Tryz.prog 19 #[.string src] w fun e w' => ∃ b, e = .returned (.tuple #[.pointer (some ⟨b, 3, none⟩), .int .i64 0, .int .i64 0]) ∧ Got w w' b 3 src T := by
  have hmf : ∀ (fn : Fn) (first cap : Array Value) (w : World), (Instr.makeFunc fn first cap).run Tryz.prog w = .ok (.func fn first cap) w := fun _ _ _ _ => rfl
  have k0 := Kp.alloc [] w (.cells #[.string src] 9)
  go_enter Tryz.func19, Tryz.ntmps19
  go_wp2_with fail
  refine (caughtS (a := w.heap.size) (by simp) h).mono ?_
  rintro e w1 ⟨p, rfl, σ, σ', fr, hT, sc, k1⟩
  go_wp2_with fail
  go_ret3
  exact ⟨p, rfl, σ, σ', fr, hT, sc.lower k0.size, k0.trans k1⟩

theorem Tryz.szScript : (Tryz.prog.info? 50).map (·.size) = some 4 := by kernel_rfl
set_option maxRecDepth 100000 in
set_option maxHeartbeats 1000000 in
theorem compile_v {src : ByteArray} {T : Sst → Sst → Prop} {w : World} (h : Script src T) :
    Calls Tryz.prog 15 #[.string src] w fun e w' => ∃ b, e = .returned (.tuple #[.pointer (some ⟨b, 0, none⟩), .int .i64 0, .int .i64 0]) ∧ Got w w' b 0 src T := by
  go_enter Tryz.func15, Tryz.ntmps15
  go_wp2_with fail
  refine (readScript_v h).mono ?_
  rintro e w1 ⟨p, rfl, σ, σ', fr, hT, sc, k1⟩
  have c0 := sc.c0
  have c1 := sc.c1
  have c2 := sc.c2
  have c3 := sc.c3
  go_wp2_with fail
  go_ret3
  exact ⟨w1.heap.size, rfl, σ, σ', fr, hT, by simpa using sc.copy rfl, k1.trans (Kp.alloc _ _ _)⟩
end Go.Proofs.YtonnimbcekhbgaaGreatDoor
