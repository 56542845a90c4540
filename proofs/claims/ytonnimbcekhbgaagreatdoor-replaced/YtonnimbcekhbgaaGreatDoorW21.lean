/- What the claim needs of: EOToEP. -/
import Derived.Test.YtonnimbcekhbgaaGreatDoorW20
import Derived.Defers
import Derived.Recover
import Derived.Lib.AppendStr
import Derived.Lib.UnsafeStr

/- EOToEP. -/
namespace Go.Proofs.YtonnimbcekhbgaaGreatDoor
open Go.RowKit

/-- A script in memory, its four fields from place o of block b on; all of it lies in blocks from lo to below hi. -/
structure Scr (lo hi : Nat) (w : World) (b o : Nat) (σ : Sst) : Prop where
  blo : lo ≤ b
  bhi : b < hi
  hi_le : hi ≤ w.heap.size
  c0 : w.cell? ⟨b, o, none⟩ = some (.bool σ.quiet)
  c1 : w.cell? ⟨b, o + 1, none⟩ = some σ.vc
  c2 : w.cell? ⟨b, o + 2, none⟩ = some σ.vn
  c3 : w.cell? ⟨b, o + 3, none⟩ = some (.int .i64 σ.ranges)
  o4 : w.ownsRow lo 100 23 σ.vc σ.cs.length σ.cs.flatten
  o5 : w.ownsRow lo 9 1 σ.vn σ.ns.length (σ.ns.map .string)
  h4 : ∀ g, σ.vc.ownBlock = some g → g < hi
  h5 : ∀ g, σ.vn.ownBlock = some g → g < hi
  len : ∀ c ∈ σ.cs, c.length = 23
  fx : ∀ f ∈ σ.fs, w.heap[f.1]? = some f.2 ∧ lo ≤ f.1 ∧ f.1 < hi

section
variable {lo hi b o : Nat} {w w' : World} {σ : Sst}
theorem Scr.keep {S : List Nat} (h : Scr lo hi w b o σ) (k : Kp S w w') (hS : ∀ x ∈ S, x < lo ∨ hi ≤ x) : Scr lo hi w' b o σ := by
  have hh : ∀ p, lo ≤ p → p < hi → w'.heap[p]? = w.heap[p]? := fun p h1 h2 => k.block p (Nat.lt_of_lt_of_le h2 h.hi_le) (fun e => by have := hS p e; omega)
  have hb := hh b h.blo h.bhi
  have hc : ∀ j, w'.cell? ⟨b, j, none⟩ = w.cell? ⟨b, j, none⟩ := fun j => World.cell?_of_block hb
  exact ⟨h.blo, h.bhi, Nat.le_trans h.hi_le k.size, (hc _).trans h.c0, (hc _).trans h.c1, (hc _).trans h.c2, (hc _).trans h.c3, own_block h.o4 (fun p hp => hh p (own_lt h.o4 hp).1 (h.h4 p hp)), own_block h.o5 (fun p hp => hh p (own_lt h.o5 hp).1 (h.h5 p hp)), h.h4, h.h5, h.len, fun f hf => ⟨(hh f.1 (h.fx f hf).2.1 (h.fx f hf).2.2).trans (h.fx f hf).1, (h.fx f hf).2⟩⟩
theorem Scr.lower {lo' : Nat} (h : Scr lo hi w b o σ) (hl : lo' ≤ lo) : Scr lo' hi w b o σ :=
  ⟨Nat.le_trans hl h.blo, h.bhi, h.hi_le, h.c0, h.c1, h.c2, h.c3, own_lower h.o4 hl, own_lower h.o5 hl, h.h4, h.h5, h.len, fun f hf => ⟨(h.fx f hf).1, Nat.le_trans hl (h.fx f hf).2.1, (h.fx f hf).2.2⟩⟩
theorem Sr.scr {w0 : World} {src : ByteArray} {k : Nat} (h : Sr w0 w b src k σ) : Scr w0.heap.size w.heap.size w b 3 σ :=
  ⟨h.r.bk.lo 0 b rfl, h.cur.lt, Nat.le_refl _, h.c.c3, h.c.c4, h.c.c5, h.c.c6, h.r.o4, h.r.o5, fun _ hg => (own_lt h.r.o4 hg).2, fun _ hg => (own_lt h.r.o5 hg).2, fun c hc => (h.r.len c hc).1, fun f hf => ⟨(h.r.fx f hf).1, (h.r.fx f hf).2.1, lt_blk (h.r.fx f hf).1⟩⟩
/-- The four fields are copied to a new block. -/
theorem Scr.copy (h : Scr lo hi w b o σ) (hw : hi = w.heap.size) : Scr lo (hi + 1) (w.alloc (.cells #[.bool σ.quiet, σ.vc, σ.vn, .int .i64 σ.ranges] 52)) w.heap.size 0 σ := by
  have B := Bl.alloc w [.bool σ.quiet, σ.vc, σ.vn, .int .i64 σ.ranges] 52
  have k := h.keep (Kp.alloc [] w (.cells #[.bool σ.quiet, σ.vc, σ.vn, .int .i64 σ.ranges] 52)) (fun _ e => by cases e)
  exact ⟨by have := h.blo; have := h.bhi; omega, by omega, by rw [hw]; simp, B.at_ 0 _ rfl, B.at_ 1 _ rfl, B.at_ 2 _ rfl, B.at_ 3 _ rfl, k.o4, k.o5, fun g hg => by have := h.h4 g hg; omega, fun g hg => by have := h.h5 g hg; omega, h.len, fun f hf => ⟨(k.fx f hf).1, (k.fx f hf).2.1, by have := (k.fx f hf).2.2; omega⟩⟩
end

set_option maxRecDepth 100000 in
set_option maxHeartbeats 1000000 in
theorem catchS_idle (p q r : Addr) (w : World) :
    CallsD Tryz.prog 32 #[.pointer (some p), .pointer (some q), .pointer (some r)] .returning w fun e u' w' => e = .returned (.tuple #[]) ∧ u' = .returning ∧ w' = w := by
  refine callsD_of_wpS Tryz.func32 rfl fun c₀ cs hu => ?_
  apply wpS_seq
  apply wpS_region
  simp [wpOpsS, go_sem, recoverD, hu, Tryz.ntmps32, Exit.thenS]
  refine wpS_of_wp ?_
  go_wp2
  cases c₀
  simp_all [bodyPostS, results, Tryz.results32]

/-- What a script is: how it is read. -/
structure Script (src : ByteArray) (T : Sst → Sst → Prop) : Prop where
  size : src.size ≤ 2000
  cmds : ∃ m, m ≤ 2000 ∧ ∀ w0 b, Cmds w0 b src m 0 T
  fin : ∀ σ σ', Fresh src σ → T σ σ' → σ'.bs = [] ∧ σ'.gs = []

/-- What has come of the reading, for those who use it. -/
def Got (w w' : World) (b o : Nat) (src : ByteArray) (T : Sst → Sst → Prop) : Prop := ∃ σ σ', Fresh src σ ∧ T σ σ' ∧ Scr w.heap.size w'.heap.size w' b o σ' ∧ Kp [] w w'

set_option maxRecDepth 100000 in
set_option maxHeartbeats 1000000 in
theorem readingS {src : ByteArray} {T : Sst → Sst → Prop} {w : World} {a : Nat} (ha : w.cell? ⟨a, 0, none⟩ = some (.string src)) (h : Script src T) :
    Calls Tryz.prog 25 #[.pointer (some ⟨a, 0, none⟩)] w fun e w' => ∃ b, e = .returned (.pointer (some ⟨b, 3, none⟩)) ∧ Got w w' b 3 src T := by
  obtain ⟨m, hm, hc⟩ := h.cmds
  have H := hid (read_v h.size (hc w) hm h.fin)
  clear h hc hm
  go_enter Tryz.func25, Tryz.ntmps25
  go_wp2_with fail
  refine H.out.mono ?_
  rintro e w1 ⟨p, rfl, b, σ, σ', rfl, fr, hT, s1⟩
  go_wp2_with fail
  go_ret
  exact ⟨b, rfl, σ, σ', fr, hT, s1.scr, s1.r.kp⟩

set_option maxRecDepth 100000 in
set_option maxHeartbeats 1000000 in
theorem caughtS {src : ByteArray} {T : Sst → Sst → Prop} {w : World} {a : Nat} (ha : w.cell? ⟨a, 0, none⟩ = some (.string src)) (h : Script src T) :
    Calls Tryz.prog 24 #[.func (.func 25) #[] #[.pointer (some ⟨a, 0, none⟩)]] w fun e w' => ∃ b, e = .returned (.tuple #[.pointer (some ⟨b, 3, none⟩), .int .i64 0, .int .i64 0]) ∧ Got w w' b 3 src T := by
  have hmf : ∀ (fn : Fn) (first cap : Array Value) (w : World), (Instr.makeFunc fn first cap).run Tryz.prog w = .ok (.func fn first cap) w := fun _ _ _ _ => rfl
  go_enter_defers Tryz.func24, Tryz.ntmps24
  go_wp2_with fail
  obtain ⟨W, hW⟩ : ∃ W : World, W = ((w.alloc (.cells #[.pointer none] 45)).alloc (.cells #[.int .i64 0] 36)).alloc (.cells #[.int .i64 0] 3) := ⟨_, rfl⟩
  have kW : Kp [] w W := by rw [hW]; exact (Kp.alloc _ _ _).trans ((Kp.alloc _ _ _).trans (Kp.alloc _ _ _))
  have zW : W.heap.size = w.heap.size + 3 := by rw [hW]; simp
  have a0 : W.cell? ⟨w.heap.size, 0, none⟩ = some (.pointer none) := by rw [hW]; simp [go_sem]
  have a1 : W.cell? ⟨w.heap.size + 1, 0, none⟩ = some (.int .i64 0) := by rw [hW]; simp [go_sem]
  have a2 : W.cell? ⟨w.heap.size + 1 + 1, 0, none⟩ = some (.int .i64 0) := by rw [hW]; simp [go_sem]
  have f0 : W.frozen? ⟨w.heap.size, 0, none⟩ = false := by rw [hW]; simp [go_sem]
  have f1 : W.frozen? ⟨w.heap.size + 1, 0, none⟩ = false := by rw [hW]; simp [go_sem]
  have f2 : W.frozen? ⟨w.heap.size + 1 + 1, 0, none⟩ = false := by rw [hW]; simp [go_sem]
  rw [← hW]
  clear hW
  refine (readingS ((kW.cell (p := ⟨a, 0, none⟩) (World.block_lt_of_cell? _ _ ha) (by simp)).trans ha) h).mono ?_
  rintro e w1 ⟨p, rfl, σ, σ', fr, hT, sc, k1⟩
  have b0 := (k1.cell (p := ⟨w.heap.size, 0, none⟩) (by simp; omega) (by simp)).trans a0
  have b1 := (k1.cell (p := ⟨w.heap.size + 1, 0, none⟩) (by simp; omega) (by simp)).trans a1
  have b2 := (k1.cell (p := ⟨w.heap.size + 1 + 1, 0, none⟩) (by simp; omega) (by simp)).trans a2
  have g0 := (k1.frozen (p := ⟨w.heap.size, 0, none⟩) (by simp; omega) (by simp)).trans f0
  have g1 := (k1.frozen (p := ⟨w.heap.size + 1, 0, none⟩) (by simp; omega) (by simp)).trans f1
  have g2 := (k1.frozen (p := ⟨w.heap.size + 1 + 1, 0, none⟩) (by simp; omega) (by simp)).trans f2
  clear a0 a1 a2 f0 f1 f2
  go_wp2_with fail
  refine leaves_cons (f := 32) (args := #[.pointer (some ⟨w.heap.size, 0, none⟩), .pointer (some ⟨w.heap.size + 1, 0, none⟩), .pointer (some ⟨w.heap.size + 1 + 1, 0, none⟩)]) (by simp) (by simp [go_sem]) ?_
  refine (catchS_idle _ _ _ _).mono ?_
  rintro e u' w'' ⟨rfl, rfl, rfl⟩
  have K1 : Kp [w.heap.size, w.heap.size + 1, w.heap.size + 1 + 1] w1 (((w1.setCell ⟨w.heap.size, 0, none⟩ (.pointer (some ⟨p, 3, none⟩))).setCell ⟨w.heap.size + 1, 0, none⟩ (.int .i64 0)).setCell ⟨w.heap.size + 1 + 1, 0, none⟩ (.int .i64 0)) :=
    (Kp.setCell _ _ (by simp)).trans ((Kp.setCell _ _ (by simp)).trans (Kp.setCell _ _ (by simp)))
  have sc2 := sc.keep K1 (by intro x hx; simp at hx; omega)
  have K2 := Kp.own (x := w.heap.size) (Kp.own (x := w.heap.size + 1) (Kp.own (x := w.heap.size + 1 + 1) (S := [w.heap.size + 1, w.heap.size]) (((kW.trans k1).mono (by simp)).trans (K1.mono (by simp))) (by omega)) (by omega)) (by omega)
  simp [Leaves, settle, results, Tryz.results24, go_sem, b0, b1, b2]
  exact ⟨σ, σ', fr, hT, by simpa [World.setCell] using sc2.lower (by omega), K2⟩

set_option maxRecDepth 100000 in
set_option maxHeartbeats 1000000 in
theorem readScript_v {src : ByteArray} {T : Sst → Sst → Prop} {w : World} (h : Script src T) :
    Calls Tryz.prog 19 #[.string src] w fun e w' => ∃ b, e = .returned (.tuple #[.pointer (some ⟨b, 3, none⟩), .int .i64 0, .int .i64 0]) ∧ Got w w' b 3 src T := by
  have hmf : ∀ (fn : Fn) (first cap : Array Value) (w : World), (Instr.makeFunc fn first cap).run Tryz.prog w = .ok (.func fn first cap) w := fun _ _ _ _ => rfl
  have k0 := Kp.alloc [] w (.cells #[.string src] 9)
  go_enter Tryz.func19, Tryz.ntmps19
  go_wp2_with fail
  refine (caughtS (a := w.heap.size) (by simp) h).mono ?_
  rintro e w1 ⟨p, rfl, σ, σ', fr, hT, sc, k1⟩
  go_wp2_with fail
  go_ret3
  exact ⟨p, rfl, σ, σ', fr, hT, sc.lower k0.size, k0.trans k1⟩

set_option maxRecDepth 100000 in
set_option maxHeartbeats 1000000 in
theorem compile_v {src : ByteArray} {T : Sst → Sst → Prop} {w : World} (h : Script src T) :
    Calls Tryz.prog 15 #[.string src] w fun e w' => ∃ b, e = .returned (.tuple #[.pointer (some ⟨b, 0, none⟩), .int .i64 0, .int .i64 0]) ∧ Got w w' b 0 src T := by
  go_enter Tryz.func15, Tryz.ntmps15
  go_wp2_with fail
  refine (readScript_v h).mono ?_
  rintro e w1 ⟨p, rfl, σ, σ', fr, hT, sc, k1⟩
  have c0 := sc.c0
  have c1 := sc.c1
  have c2 := sc.c2
  have c3 := sc.c3
  go_wp2_with fail
  go_ret3
  exact ⟨w1.heap.size, rfl, σ, σ', fr, hT, by simpa using sc.copy rfl, k1.trans (Kp.alloc _ _ _)⟩
end Go.Proofs.YtonnimbcekhbgaaGreatDoor

/- What is told is put behind what was told. -/
namespace Go.Proofs.YtonnimbcekhbgaaGreatDoor
open Go.RowKit

theorem run_appS {P : Program} {w : World} {base : Nat} {t u ty e : TypeId} {i : TypeInfo} (ht : P.underlying t = some (.slice e)) (hu : P.underlying u = some .string) (hi : P.info? e = some i) (hz : i.zero = some (.int .u8 0)) (hsize : i.size = 1) (hby : i.bytes = 1)
    {v : Value} {n : Nat} {xs : List Value} (hown : w.ownsRow base e 1 v n xs) (s : ByteArray) (h63 : n + s.size ≤ 1000000) (hbase : base ≤ w.heap.size) :
    ∃ v' w', (Builtin.append_ #[t, u] ty #[v, .string s]).run P w = .ok v' w' ∧ w'.ownsRow base e 1 v' (n + s.size) (xs ++ Lib.byteCells s.data.toList) ∧ w.grownBy w' v.ownBlock ∧ ∀ g, v'.ownBlock = some g → v.ownBlock = some g ∨ w.heap.size ≤ g := by
  obtain ⟨v', w', hr, h2, h3, h4⟩ := Lib.run_append_own_string (P := P) w base t u ty e i ht hu hi hz hsize hby v n xs hown s (by unfold maxLen; omega) (by omega) hbase
  refine ⟨v', w', hr, h2, h3, fun g hg => ?_⟩
  rcases hown.2 with ⟨rfl, rfl⟩ | ⟨g', cap, cur, rfl, hbg, hgc, hnc, hcm, hcs, htake⟩
  · by_cases hm : s.size = 0
    · rw [h4.2 ⟨rfl, hm⟩] at hg; cases hg
    · have := run_append_nil_string (P := P) (ty := ty) w t u e i (.int .u8 0) ht hu hi hz s (by omega) (by omega) (by rw [hby]; omega)
      rw [this] at hr
      injection hr with hr _
      subst hr
      have : w.heap.size = g := by simpa [Value.ownBlock] using hg
      exact .inr (by omega)
  · by_cases hroom : n + s.size ≤ cap
    · have := Lib.run_append_room_string (P := P) w t u ty e i ht hu hi hsize g' n cap cur hgc s hroom (by rw [hcs]; omega)
      rw [this] at hr
      injection hr with hr _
      subst hr
      exact .inl hg
    · have hxl : xs.length = n := by simpa using hown.1
      have := Lib.run_append_grow_string (P := P) w t u ty e i (.int .u8 0) ht hu hi hz ⟨g', 0, none⟩ n cap xs (by rw [hsize]; simpa using hxl) (hown.cells (g := g') rfl) s (by omega) (by omega) (by rw [hby]; exact growslice_fits (by omega) (by omega))
      rw [this] at hr
      injection hr with hr _
      subst hr
      have : w.heap.size = g := by simpa [Value.ownBlock] using hg
      exact .inr (by omega)

theorem wpList_appS {P : Program} {ops : Array Oper} {rest : List Oper} {o : Oper} {a : Act} {w : World} {Q : Exit → Act → World → Prop} (hgd : o.guard = none) (sl x : Operand) (t u : TypeId)
    (ho : o.op = .call { callee := .builtin .append, args := #[sl, x], argTypes := #[t, u] })
    (base : Nat) (e : TypeId) (i : TypeInfo) (ht : P.underlying t = some (.slice e)) (hu : P.underlying u = some .string) (hi : P.info? e = some i) (hz : i.zero = some (.int .u8 0))
    (hsize : i.size = 1) (hby : i.bytes = 1)
    (v : Value) (n : Nat) (xs : List Value) (hs : a.eval sl = v) (hown : w.ownsRow base e 1 v n xs) (s : ByteArray) (hx : a.eval x = .string s)
    (h63 : n + s.size ≤ 1000000) (hbase : base ≤ w.heap.size)
    (h : ∀ v' w', w'.ownsRow base e 1 v' (n + s.size) (xs ++ Lib.byteCells s.data.toList) → w.grownBy w' v.ownBlock → (∀ g, v'.ownBlock = some g → v.ownBlock = some g ∨ w.heap.size ≤ g) → wpList P ops Q rest (a.put o.dst v') w') : wpList P ops Q (o :: rest) a w := by
  refine wpList_plain hgd fun K hK => ?_
  obtain ⟨v', w', hr, h2, h3, h4⟩ := run_appS (P := P) (ty := o.type) ht hu hi hz hsize hby hown s h63 hbase
  unfold Oper.wp
  simp [execOp, ho, resolve, invoke, builtin, hs, hx, hr, Result.andThen]
  exact hK _ _ (h v' w' h2 h3 h4)

theorem Tryz.infoByte : (Tryz.prog.info? 5).map (fun i => (i.zero, i.size, i.bytes)) = some (some (.int .u8 0), 1, 1) := by kernel_rfl

/-- What came of telling a text: the row, and what else is as it was. -/
structure Added (mb c : Nat) (v : Value) (lo : Nat) (xs : List UInt8) (text : ByteArray) (w w' : World) (v' : Value) : Prop where
  row : w'.ownsRow lo 5 1 v' (xs.length + text.size + 1) (Lib.byteCells (xs ++ text.data.toList ++ [10]))
  at_ : ∀ g, v'.ownBlock = some g → v.ownBlock = some g ∨ w.heap.size ≤ g
  kp : Kp (mb :: v.ownBlock.toList) w w'
  c7 : w'.cell? ⟨mb, 7, none⟩ = some (.int .i64 ((c + text.size + 1 : Nat) : Int))
  cell : ∀ j, j ≠ 7 → w'.cell? ⟨mb, j, none⟩ = w.cell? ⟨mb, j, none⟩
  free : ∀ j, w'.frozen? ⟨mb, j, none⟩ = w.frozen? ⟨mb, j, none⟩

set_option maxRecDepth 100000 in
set_option maxHeartbeats 2000000 in
theorem add_v {w : World} {mb c lo : Nat} {v : Value} {xs : List UInt8} {text : ByteArray} (c7 : w.cell? ⟨mb, 7, none⟩ = some (.int .i64 c)) (f7 : w.frozen? ⟨mb, 7, none⟩ = false) (hrow : w.ownsRow lo 5 1 v xs.length (Lib.byteCells xs))
    (hne : v.ownBlock ≠ some mb) (hlo : lo ≤ w.heap.size) (hc : c + text.size + 1 ≤ 200000) (hx : xs.length ≤ c) :
    Calls Tryz.prog 121 #[.pointer (some ⟨mb, 5, none⟩), v, .string text] w fun r w' => ∃ v', r = .returned v' ∧ Added mb c v lo xs text w w' v' := by
  obtain ⟨i0, hi, hz0, hz1, hz2⟩ := info_parts Tryz.infoByte
  have HI := hid (And.intro hi (And.intro hz0 (And.intro hz1 hz2)))
  clear hi hz0 hz1 hz2
  have hlt := World.block_lt_of_cell? _ _ c7
  obtain ⟨t1, ht1⟩ : ∃ t1 : Nat, (text.size : Int) + 1 = (t1 : Int) := ⟨text.size + 1, by omega⟩
  obtain ⟨t2, ht2⟩ : ∃ t2 : Nat, (c : Int) + (t1 : Int) = (t2 : Int) := ⟨c + t1, by omega⟩
  have q1 := wrap_i64_nat t1 (by omega)
  have q2 := wrap_i64_nat t2 (by omega)
  have g1 : ¬ 200000 < t2 := by omega
  have k1 : Kp [mb] w (w.setCell ⟨mb, 7, none⟩ (.int .i64 t2)) := Kp.setCell _ _ (by simp)
  have o1 : Hid ((w.setCell ⟨mb, 7, none⟩ (.int .i64 (t2 : Int))).ownsRow lo 5 1 v xs.length (Lib.byteCells xs)) := hid (own_block hrow (fun p hp => k1.block p (own_lt hrow hp).2 (fun e => hne (by simp at e; rw [← e]; exact hp))))
  have HLO : Hid (lo ≤ (w.setCell ⟨mb, 7, none⟩ (.int .i64 (t2 : Int))).heap.size) := hid (Nat.le_trans hlo k1.size)
  go_enter Tryz.func121, Tryz.ntmps121
  go_wp2_with (first
    | (at_builtin; refine wpList_appS rfl _ _ 34 9 rfl lo 5 i0 Tryz.underlying34 Tryz.underlying9 HI.out.1 HI.out.2.1 HI.out.2.2.1 HI.out.2.2.2 v xs.length (Lib.byteCells xs) rfl o1.out text rfl (by omega) HLO.out ?_; intro v2 w2 ho2 hg2 hl2; have HO2 := hid ho2; have HG2 := hid hg2; have HL2 := hid hl2; clear ho2 hg2 hl2)
    | (at_builtin; refine wpList_app rfl _ _ 34 rfl lo 5 i0 (.int .u8 0) 1 1 Tryz.underlying34 HI.out.1 HI.out.2.1 HI.out.2.2.1 HI.out.2.2.2 rfl (by decide) v2 (xs.length + text.size) (Lib.byteCells xs ++ Lib.byteCells text.data.toList) rfl (own_block HO2.out (fun p hp => (Kp.alloc [] w2 _).block p (own_lt HO2.out hp).2 (by simp))) ⟨w2.heap.size, 0, none⟩ 1 1 [.int .u8 10] rfl rfl (fun j u hu => by rw [Addr.add_mid, Nat.zero_add]; exact (Bl.alloc w2 [.int .u8 10] 5).at_ j u hu) (fun u hu => by simp at hu; subst hu; rfl) (by unfold maxLen; omega) (by omega) (Nat.le_trans HLO.out (Nat.le_trans HG2.out.size (Kp.alloc [] w2 _).size)) (by omega) ?_; intro g3 cap3 w3 ho3 hg3 hor3))
  go_ret
  have s1 : (w.setCell ⟨mb, 7, none⟩ (.int .i64 (t2 : Int))).heap.size = w.heap.size := by simp [World.setCell]
  have s2 := HG2.out.size
  have ka := Kp.alloc [] w2 (.cells #[.int .u8 10] 5)
  have sa := ka.size
  have nv2 : ∀ p, p < w.heap.size → p ∉ v.ownBlock.toList → v2.ownBlock ≠ some p := fun p hp hn e => by
    rcases HL2.out p e with q | q
    · exact hn (by rw [q]; simp)
    · omega
  have nmb : mb ∉ v.ownBlock.toList := fun e => hne (by simpa using e)
  have bk : ∀ p, p < w.heap.size → p ∉ v.ownBlock.toList → w3.heap[p]? = (w.setCell ⟨mb, 7, none⟩ (.int .i64 (t2 : Int))).heap[p]? := fun p hp hn =>
    (hg3.block p (by omega) (fun e => nv2 p hp hn (by first | exact e | exact e.symm))).trans ((ka.block p (by omega) (by simp)).trans (HG2.out.block p (by omega) (fun e => hn (by first | (rw [e]; simp) | (rw [← e]; simp)))))
  have bm := bk mb hlt nmb
  refine ⟨_, rfl, ⟨?_, fun g hg => ?_, ⟨?_, ?_, ?_, ?_, fun p hp hn => ?_⟩, ?_, fun j hj => ?_, fun j => ?_⟩⟩
  · have : Lib.byteCells (xs ++ text.data.toList ++ [10]) = Lib.byteCells xs ++ Lib.byteCells text.data.toList ++ [.int .u8 10] := by simp [Lib.byteCells]
    rw [this]
    exact ho3
  · have hg' : g3 = g := by simpa [Value.ownBlock] using hg
    subst hg'
    rcases hor3 with q | q
    · rcases HL2.out g3 q with q | q
      · exact .inl q
      · exact .inr (by omega)
    · exact .inr (by omega)
  · exact hg3.os.trans (ka.os.trans (HG2.out.os.trans k1.os))
  · exact hg3.tape.trans (ka.tape.trans (HG2.out.tape.trans k1.tape))
  · exact hg3.output.trans (ka.output.trans (HG2.out.output.trans k1.output))
  · have := hg3.size; omega
  · have h1 : p ≠ mb := fun e => hn (by simp [e])
    have h2 : p ∉ v.ownBlock.toList := fun e => hn (by simp at e ⊢; exact .inr e)
    exact (bk p hp h2).trans (k1.block p hp (by simpa using h1))
  · rw [World.cell?_of_block bm, cell_same _ c7]
    congr 3
    omega
  · rw [World.cell?_of_block bm]
    exact cell_other _ (fun e => by injection e with _ e2 _; exact hj e2.symm)
  · rw [World.frozen?_of_block bm]
    simp
end Go.Proofs.YtonnimbcekhbgaaGreatDoor
