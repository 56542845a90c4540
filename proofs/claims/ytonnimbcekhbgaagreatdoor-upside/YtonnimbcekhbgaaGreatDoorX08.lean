/- What the claim needs of: EMToEN EOToEP. -/
import Derived.Test.YtonnimbcekhbgaaGreatDoorX07
import Derived.Shelf.Strconv.Clone
import Derived.Shelf.Strconv.Itoa3
import Derived.Shelf.Strings.Search2
import Derived.Test.YtonnimbcekhbgaaGreatDoorX00
import Derived.Defers
import Derived.Recover
import Derived.Lib.AppendStr
import Derived.Lib.UnsafeStr

/- EMToEN. -/
namespace Go.Proofs.YtonnimbcekhbgaaGreatDoor
open Go.RowKit

/-- Is p what s begins with? -/
def pfxB (s p : ByteArray) : Bool := decide (p.size ≤ s.size) && ((s.extract 0 p.size).toList == p.toList)
set_option maxHeartbeats 400000 in
theorem hasPrefix_k (s p : ByteArray) (w : World) :
    Calls Tryz.prog 77 #[.string s, .string p] w fun e w' => e = .returned (.bool (pfxB s p)) ∧ w' = w := by
  go_enter Tryz.func77, Tryz.ntmps77
  go_wp2
  · go_ret
    have h : p.size ≤ s.size := by assumption
    exact ⟨by simp [pfxB, h], rfl⟩
  · go_ret
    have h : ¬ p.size ≤ s.size := by assumption
    exact ⟨by simp [pfxB, h], rfl⟩

theorem btwN_ge {s : ByteArray} : ∀ {n k e : Nat}, btwN s n k = some e → k ≤ e
  | 0, _, _, h => by cases h
  | n + 1, k, e, h => by
    unfold btwN at h
    split at h
    · obtain ⟨a, h1, h2⟩ := Option.bind_eq_some_iff.1 h
      exact Nat.le_trans (cmtN_gt h1) (btwN_ge h2)
    · split at h
      · have := btwN_ge h
        omega
      · injection h with h
        omega

/-- A command that can be read, from one place to another. -/
def CmdOk (w0 : World) (b : Nat) (src : ByteArray) (k e : Nat) (T : Sst → Sst → Prop) : Prop :=
  ∀ w σ, Sr w0 w b src k σ → σ.cs.length ≤ 2000 → σ.ranges ≤ 2000 → Small σ 2000 →
    Calls Tryz.prog 80 #[.pointer (some ⟨b, 0, none⟩)] w fun r w' => r = .returned (.tuple #[]) ∧ ∃ σ', T σ σ' ∧ Sr w0 w' b src e σ'

/-- Commands, one behind the other, to the script's end. -/
inductive Cmds (w0 : World) (b : Nat) (src : ByteArray) : Nat → Nat → (Sst → Sst → Prop) → Prop
  | done {k n : Nat} (h : btwN src n k = some src.size) : Cmds w0 b src 0 k (fun σ σ' => σ' = σ)
  | more {m k n k1 e : Nat} {T T' : Sst → Sst → Prop} (h : btwN src n k = some k1) (hk : k1 < src.size) (hke : k1 < e) (hc : CmdOk w0 b src k1 e T) (hT : ∀ σ σ', T σ σ' → σ'.cs.length = σ.cs.length + 1 ∧ σ'.ranges ≤ σ.ranges + 1 ∧ ∀ N, Small σ N → Small σ' (N + 1)) (hr : Cmds w0 b src m e T') :
      Cmds w0 b src (m + 1) k (fun σ σ' => ∃ σ1, T σ σ1 ∧ T' σ1 σ')

theorem Cmds.btw {w0 : World} {b : Nat} {src : ByteArray} {m k : Nat} {T : Sst → Sst → Prop} (h : Cmds w0 b src m k T) : ∃ n k1, btwN src n k = some k1 ∧ ((k1 = src.size ∧ ∀ σ, T σ σ) ∨ (k1 < src.size ∧ ∃ m' e T1 T', m = m' + 1 ∧ k1 < e ∧ CmdOk w0 b src k1 e T1 ∧ (∀ σ σ', T1 σ σ' → σ'.cs.length = σ.cs.length + 1 ∧ σ'.ranges ≤ σ.ranges + 1 ∧ ∀ N, Small σ N → Small σ' (N + 1)) ∧ Cmds w0 b src m' e T' ∧ ∀ σ σ1 σ', T1 σ σ1 → T' σ1 σ' → T σ σ')) := by
  cases h with
  | done h => exact ⟨_, _, h, .inl ⟨rfl, fun _ => rfl⟩⟩
  | more h hk hke hc hT hr => exact ⟨_, _, h, .inr ⟨hk, _, _, _, _, rfl, hke, hc, hT, hr, fun σ σ1 σ' h1 h2 => ⟨σ1, h1, h2⟩⟩⟩

section
variable {w0 w w' : World} {b k : Nat} {src : ByteArray} {σ : Sst}
theorem srB_quiet (b : Nat) (σ : Sst) (q : Bool) : srB b { σ with quiet := q } = srB b σ := by
  funext i
  rcases i with _ | _ | _ | _ | _ | _ | _ | _ | i <;> rfl
theorem Sr.quiet (h : Sr w0 w b src k σ) (q : Bool) : Sr w0 (w.setCell ⟨b, 3, none⟩ (.bool q)) b src k { σ with quiet := q } := by
  have kp : Kp [b] w (w.setCell ⟨b, 3, none⟩ (.bool q)) := Kp.setCell _ _ (by simp)
  have hc : ∀ j, j ≠ 3 → (w.setCell ⟨b, 3, none⟩ (Value.bool q)).cell? ⟨b, j, none⟩ = w.cell? ⟨b, j, none⟩ := fun j hj => cell_other _ (fun e => by injection e with _ e2 _; exact hj e2.symm)
  refine ⟨⟨by simpa [World.setCell] using h.cur.lt, h.cur.le, h.cur.small, (hc _ (by omega)).trans h.cur.c0, (hc _ (by omega)).trans h.cur.c1, fun i => by simpa using h.cur.free i⟩, ⟨(hc _ (by omega)).trans h.c.c2, cell_same _ h.c.c3, (hc _ (by omega)).trans h.c.c4, (hc _ (by omega)).trans h.c.c5, (hc _ (by omega)).trans h.c.c6, (hc _ (by omega)).trans h.c.c7, (hc _ (by omega)).trans h.c.c8, (hc _ (by omega)).trans h.c.c9, (hc _ (by omega)).trans h.c.c10, (hc _ (by omega)).trans h.c.c11⟩, ?_⟩
  have r := h.r.keep kp (fun x hx => by
    simp at hx
    subst hx
    exact ⟨h.r.bk.lo 0 x rfl, fun i hi e => by have := h.r.bk.ne i 0 x e rfl; omega, fun f hf e => (h.r.fx f hf).2.2 0 (by rw [e]; rfl)⟩)
  exact ⟨r.kp, r.o4, r.o5, r.o8, r.o11, r.m7, r.m9, r.m10, r.len, by rw [srB_quiet]; exact r.bk, by rw [srB_quiet]; exact r.fx⟩

/-- Is it quiet? -/
def qtB (src : ByteArray) : Bool := (src.toList == [35, 110]) || pfxB src ⟨#[35, 110, 10]⟩
/-- What has come of the whole. -/
def Whole (w0 w' : World) (b : Nat) (src : ByteArray) (σ : Sst) (T : Sst → Sst → Prop) : Prop := ∃ σ', T { σ with quiet := qtB src } σ' ∧ Sr w0 w' b src src.size σ'

/-- Where the reader is, between two commands. -/
def WInv (w0 : World) (b : Nat) (src : ByteArray) (T : Sst → Sst → Prop) (σ0 : Sst) (k : Nat) (σ : Sst) : Prop :=
  (k = src.size ∧ T σ0 σ) ∨ (k < src.size ∧ ∃ m e T1 T', k < e ∧ CmdOk w0 b src k e T1 ∧ (∀ σ σ', T1 σ σ' → σ'.cs.length = σ.cs.length + 1 ∧ σ'.ranges ≤ σ.ranges + 1 ∧ ∀ N, Small σ N → Small σ' (N + 1)) ∧ Cmds w0 b src m e T' ∧ (∀ σ1 σ', T1 σ σ1 → T' σ1 σ' → T σ0 σ') ∧ σ.cs.length + m + 1 ≤ 2000 ∧ σ.ranges + m + 1 ≤ 2000 ∧ ∃ N, Small σ N ∧ N + m + 1 ≤ 2000)
theorem WInv.start {m k : Nat} {T T0 : Sst → Sst → Prop} {σ0 σ : Sst} (h : Cmds w0 b src m k T) (hT : ∀ σ', T σ σ' → T0 σ0 σ') (h0 : σ.cs.length + m ≤ 2000) (h1 : σ.ranges + m ≤ 2000) (h2 : ∃ N, Small σ N ∧ N + m ≤ 2000) : ∃ n k1, btwN src n k = some k1 ∧ WInv w0 b src T0 σ0 k1 σ := by
  obtain ⟨n, k1, hb, hh⟩ := h.btw
  refine ⟨n, k1, hb, ?_⟩
  rcases hh with ⟨rfl, hr⟩ | ⟨hk, m', e, T1, T', rfl, hke, hc, hT1, hr, hcomp⟩
  · exact .inl ⟨rfl, hT σ (hr σ)⟩
  · exact .inr ⟨hk, m', e, T1, T', hke, hc, hT1, hr, fun σ1 σ' q1 q2 => hT σ' (hcomp σ σ1 σ' q1 q2), by omega, by omega, h2.elim fun N q => ⟨N, q.1, by have := q.2; omega⟩⟩

end
end Go.Proofs.YtonnimbcekhbgaaGreatDoor

/- One text out of several: EQ EN. -/
/- The library's small functions at this program: the layings' plain text, and what is used of them. -/
namespace Go.Proofs.YtonnimbcekhbgaaGreatDoor
open Go.Shelf Go.RowKit
def Tryz.laysM316_ren : Go.Shelf.Ren := ⟨fun | 316 => 66 | n => n, fun | 9 => 9 | 3 => 3 | 4 => 4 | 37 => 34 | 0 => 0 | 127 => 127 | 5 => 5 | n => n, fun | n => n⟩
theorem Tryz.laysM316 : Go.Proofs.LaysM.n316 Tryz.prog Tryz.laysM316_ren := {
  mixed := by kernel_rfl
  f316 := Tryz.func66.trans (congrArg some (by kernel_rfl))
  t0 := Tryz.underlying0
  a0 := Tryz.isAgg0
  z0 := Tryz.sizeOf0
  v0 := Tryz.zeroValue0
  t3 := Tryz.underlying3
  a3 := Tryz.isAgg3
  z3 := Tryz.sizeOf3
  v3 := Tryz.zeroValue3
  t4 := Tryz.underlying4
  a4 := Tryz.isAgg4
  z4 := Tryz.sizeOf4
  v4 := Tryz.zeroValue4
  t9 := Tryz.underlying9
  a9 := Tryz.isAgg9
  z9 := Tryz.sizeOf9
  v9 := Tryz.zeroValue9
  t37 := Tryz.underlying34
  a37 := Tryz.isAgg34
  z37 := Tryz.sizeOf34
  v37 := Tryz.zeroValue34
  t127 := Tryz.underlying127
  a127 := Tryz.isAgg127
  z127 := Tryz.sizeOf127
  v127 := Tryz.zeroValue127
  t5 := Tryz.underlying5
  a5 := Tryz.isAgg5
  z5 := Tryz.sizeOf5
  v5 := Tryz.zeroValue5
  i0 := by kernel_rfl
  i3 := by kernel_rfl
  i4 := by kernel_rfl
  i5 := by kernel_rfl
  i9 := by kernel_rfl
  i37 := by kernel_rfl
  i127 := by kernel_rfl }
def Tryz.lays219_ren : Go.Shelf.Ren := ⟨fun | 219 => 139 | 217 => 142 | 225 => 147 | 224 => 148 | 267 => 149 | 266 => 155 | 314 => 158 | n => n, fun | 9 => 9 | 3 => 3 | 4 => 4 | 5 => 5 | 46 => 145 | 146 => 200 | 51 => 199 | n => n, fun | 1 => 0 | n => n⟩
theorem Tryz.lays219 : Go.Proofs.Lays.n219 Tryz.prog Tryz.lays219_ren := {
  mixed := by kernel_rfl
  f217 := Tryz.func142.trans (congrArg some (by kernel_rfl))
  f219 := Tryz.func139.trans (congrArg some (by kernel_rfl))
  f224 := Tryz.func148.trans (congrArg some (by kernel_rfl))
  f225 := Tryz.func147.trans (congrArg some (by kernel_rfl))
  f266 := Tryz.func155.trans (congrArg some (by kernel_rfl))
  f267 := Tryz.func149.trans (congrArg some (by kernel_rfl))
  f314 := Tryz.func158.trans (congrArg some (by kernel_rfl))
  t3 := Tryz.underlying3
  a3 := Tryz.isAgg3
  z3 := Tryz.sizeOf3
  v3 := Tryz.zeroValue3
  t4 := Tryz.underlying4
  a4 := Tryz.isAgg4
  z4 := Tryz.sizeOf4
  v4 := Tryz.zeroValue4
  t5 := Tryz.underlying5
  a5 := Tryz.isAgg5
  z5 := Tryz.sizeOf5
  v5 := Tryz.zeroValue5
  t9 := Tryz.underlying9
  a9 := Tryz.isAgg9
  z9 := Tryz.sizeOf9
  v9 := Tryz.zeroValue9
  t46 := Tryz.underlying145
  a46 := Tryz.isAgg145
  z46 := Tryz.sizeOf145
  v46 := Tryz.zeroValue145
  t51 := Tryz.underlying199
  a51 := Tryz.isAgg199
  z51 := Tryz.sizeOf199
  v51 := Tryz.zeroValue199
  t146 := Tryz.underlying200
  a146 := Tryz.isAgg200
  z146 := Tryz.sizeOf200
  v146 := Tryz.zeroValue200
  g1 := by kernel_rfl }

theorem clone0 (s : ByteArray) (w : World) (h : s.size ≤ 281474976710656) :
    Calls Tryz.prog 66 #[.string s] w fun e w' => e = .returned (.string s) ∧ Kp [] w w' :=
  (Any.stringslite_Clone Tryz.laysM316 s w h).mono fun _ _ ⟨he, hb⟩ => ⟨he, Kp.of_below hb⟩
theorem clone_k (s : ByteArray) (w : World) (h : s.size ≤ 281474976710656) :
    Calls Tryz.prog 33 #[.string s] w fun e w' => e = .returned (.string s) ∧ Kp [] w w' := by
  go_enter Tryz.func33, Tryz.ntmps33
  go_wp2_with fail
  refine (clone0 s w h).mono ?_
  rintro e w1 ⟨rfl, k1⟩
  go_wp2_with fail
  go_ret
  exact ⟨rfl, k1⟩
theorem index_k (s : ByteArray) (c : UInt8) (w : World) :
    Calls Tryz.prog 139 #[.string s, .string ⟨#[c]⟩] w fun e w' => e = .returned (.int .i64 (Lib.indexByte s.data.toList c)) ∧ w' = w := Any.stringslite_Index_one Tryz.lays219 s c w
end Go.Proofs.YtonnimbcekhbgaaGreatDoor

/- A script is read. -/
namespace Go.Proofs.YtonnimbcekhbgaaGreatDoor
open Go.RowKit

/-- Nothing is read yet. -/
structure Fresh (src : ByteArray) (σ : Sst) : Prop where
  quiet : σ.quiet = qtB src
  cs : σ.cs = []
  ns : σ.ns = []
  ranges : σ.ranges = 0
  bs : σ.bs = []
  gs : σ.gs = []
  ls : σ.ls = []
  nm : σ.nm = []

/-- What has come of the reading. -/
def ReadS (w w' : World) (p : Value) (src : ByteArray) (T : Sst → Sst → Prop) : Prop := ∃ b σ σ', p = .pointer (some ⟨b, 3, none⟩) ∧ Fresh src σ ∧ T σ σ' ∧ Sr w w' b src src.size σ'

abbrev rdV (src : ByteArray) (ob lb nb : Nat) : List Value := [.string src, .int .i64 0, .int .i64 4, .bool false, .slice none 0 0, .slice none 0 0, .int .i64 0, .map (some ob), .slice none 0 0, .map (some lb), .map (some nb), .slice none 0 0]
def st0 (ob lb nb : Nat) : Sst := ⟨false, .slice none 0 0, [], .slice none 0 0, [], 0, ob, lb, nb, .slice none 0 0, [], .slice none 0 0, [], [], [], []⟩

theorem sr_start {w w1 w2 w5 : World} {src : ByteArray} (hsz : src.size ≤ 2000) (k1 : Kp [] w w1) (k2 : Kp [] w1 w2) (ht : w2.heap[w1.heap.size]? = some (tabO opsL)) (B : Bl w5 ((w2.alloc (.map #[] 0)).alloc (.map #[] 0)).heap.size (rdV src w1.heap.size w2.heap.size (w2.heap.size + 1))) (k5 : Kp [] ((w2.alloc (.map #[] 0)).alloc (.map #[] 0)) w5) :
    Sr w w5 ((w2.alloc (.map #[] 0)).alloc (.map #[] 0)).heap.size src 0 (st0 w1.heap.size w2.heap.size (w2.heap.size + 1)) := by
  obtain ⟨b, hb⟩ : ∃ b, b = ((w2.alloc (.map #[] 0)).alloc (.map #[] 0)).heap.size := ⟨_, rfl⟩
  have hb2 : b = w2.heap.size + 2 := by rw [hb]; simp
  have klt := lt_blk ht
  have s1 := k1.size
  have ka : Kp [] w2 w5 := ((Kp.alloc [] _ _).trans (Kp.alloc _ _ _)).trans k5
  have hz1 : (w2.alloc (.map #[] 0)).heap.size = w2.heap.size + 1 := by simp
  have hz2 : ((w2.alloc (.map #[] 0)).alloc (.map #[] 0)).heap.size = w2.heap.size + 2 := by simp
  have m2 : w5.heap[w2.heap.size]? = some (.map #[] 0) :=
    (k5.block _ (by omega) (by simp)).trans (((Kp.alloc [] (w2.alloc (.map #[] 0)) _).block _ (by omega) (by simp)).trans (heap_alloc_new w2 _))
  have m3 : w5.heap[w2.heap.size + 1]? = some (.map #[] 0) := by
    refine (k5.block _ (by omega) (by simp)).trans ?_
    rw [← hz1]
    exact heap_alloc_new (w2.alloc (.map #[] 0)) _
  rw [← hb] at B ⊢
  have blt := B.lt
  have hB : ∀ i p, srB b (st0 w1.heap.size w2.heap.size (w2.heap.size + 1)) i = some p → (i = 0 ∧ p = b) ∨ (i = 1 ∧ p = w1.heap.size) ∨ (i = 2 ∧ p = w2.heap.size) ∨ (i = 3 ∧ p = w2.heap.size + 1) := fun i p hp => by
    rcases i with _ | _ | _ | _ | _ | _ | _ | _ | i <;> simp [srB, st0, Value.ownBlock] at hp <;> omega
  refine ⟨⟨blt, Nat.zero_le _, hsz, B.at_ 0 _ rfl, B.at_ 1 _ rfl, B.free⟩, ⟨B.at_ 2 _ rfl, B.at_ 3 _ rfl, B.at_ 4 _ rfl, B.at_ 5 _ rfl, B.at_ 6 _ rfl, B.at_ 7 _ rfl, B.at_ 8 _ rfl, B.at_ 9 _ rfl, B.at_ 10 _ rfl, B.at_ 11 _ rfl⟩, ⟨k1.trans (k2.trans ka), World.ownsRow_nil _ _ _ _, World.ownsRow_nil _ _ _ _, World.ownsRow_nil _ _ _ _, World.ownsRow_nil _ _ _ _, (ka.block _ klt (by simp)).trans ht, m2, m3, (fun c hc => by cases hc), ⟨fun i p hp => ?_, fun i p hp => ?_, fun i j p hi hj => ?_⟩, (fun f hf => by cases hf)⟩⟩
  · have := hB i p hp; omega
  · have := hB i p hp; omega
  · have := hB i p hi; have := hB j p hj; omega

end Go.Proofs.YtonnimbcekhbgaaGreatDoor

/- EOToEP. -/
namespace Go.Proofs.YtonnimbcekhbgaaGreatDoor
open Go.RowKit

/-- A script in memory, its four fields from place o of block b on; all of it lies in blocks from lo to below hi. -/
structure Scr (lo hi : Nat) (w : World) (b o : Nat) (σ : Sst) : Prop where
  blo : lo ≤ b
  bhi : b < hi
  hi_le : hi ≤ w.heap.size
  c0 : w.cell? ⟨b, o, none⟩ = some (.bool σ.quiet)
  c1 : w.cell? ⟨b, o + 1, none⟩ = some σ.vc
  c2 : w.cell? ⟨b, o + 2, none⟩ = some σ.vn
  c3 : w.cell? ⟨b, o + 3, none⟩ = some (.int .i64 σ.ranges)
  o4 : w.ownsRow lo 100 23 σ.vc σ.cs.length σ.cs.flatten
  o5 : w.ownsRow lo 9 1 σ.vn σ.ns.length (σ.ns.map .string)
  h4 : ∀ g, σ.vc.ownBlock = some g → g < hi
  h5 : ∀ g, σ.vn.ownBlock = some g → g < hi
  len : ∀ c ∈ σ.cs, c.length = 23
  fx : ∀ f ∈ σ.fs, w.heap[f.1]? = some f.2 ∧ lo ≤ f.1 ∧ f.1 < hi

section
variable {lo hi b o : Nat} {w w' : World} {σ : Sst}
theorem Scr.keep {S : List Nat} (h : Scr lo hi w b o σ) (k : Kp S w w') (hS : ∀ x ∈ S, x < lo ∨ hi ≤ x) : Scr lo hi w' b o σ := by
  have hh : ∀ p, lo ≤ p → p < hi → w'.heap[p]? = w.heap[p]? := fun p h1 h2 => k.block p (Nat.lt_of_lt_of_le h2 h.hi_le) (fun e => by have := hS p e; omega)
  have hb := hh b h.blo h.bhi
  have hc : ∀ j, w'.cell? ⟨b, j, none⟩ = w.cell? ⟨b, j, none⟩ := fun j => World.cell?_of_block hb
  exact ⟨h.blo, h.bhi, Nat.le_trans h.hi_le k.size, (hc _).trans h.c0, (hc _).trans h.c1, (hc _).trans h.c2, (hc _).trans h.c3, own_block h.o4 (fun p hp => hh p (own_lt h.o4 hp).1 (h.h4 p hp)), own_block h.o5 (fun p hp => hh p (own_lt h.o5 hp).1 (h.h5 p hp)), h.h4, h.h5, h.len, fun f hf => ⟨(hh f.1 (h.fx f hf).2.1 (h.fx f hf).2.2).trans (h.fx f hf).1, (h.fx f hf).2⟩⟩
theorem Scr.lower {lo' : Nat} (h : Scr lo hi w b o σ) (hl : lo' ≤ lo) : Scr lo' hi w b o σ :=
  ⟨Nat.le_trans hl h.blo, h.bhi, h.hi_le, h.c0, h.c1, h.c2, h.c3, own_lower h.o4 hl, own_lower h.o5 hl, h.h4, h.h5, h.len, fun f hf => ⟨(h.fx f hf).1, Nat.le_trans hl (h.fx f hf).2.1, (h.fx f hf).2.2⟩⟩
theorem Sr.scr {w0 : World} {src : ByteArray} {k : Nat} (h : Sr w0 w b src k σ) : Scr w0.heap.size w.heap.size w b 3 σ :=
  ⟨h.r.bk.lo 0 b rfl, h.cur.lt, Nat.le_refl _, h.c.c3, h.c.c4, h.c.c5, h.c.c6, h.r.o4, h.r.o5, fun _ hg => (own_lt h.r.o4 hg).2, fun _ hg => (own_lt h.r.o5 hg).2, fun c hc => (h.r.len c hc).1, fun f hf => ⟨(h.r.fx f hf).1, (h.r.fx f hf).2.1, lt_blk (h.r.fx f hf).1⟩⟩
/-- The four fields are copied to a new block. -/
theorem Scr.copy (h : Scr lo hi w b o σ) (hw : hi = w.heap.size) : Scr lo (hi + 1) (w.alloc (.cells #[.bool σ.quiet, σ.vc, σ.vn, .int .i64 σ.ranges] 52)) w.heap.size 0 σ := by
  have B := Bl.alloc w [.bool σ.quiet, σ.vc, σ.vn, .int .i64 σ.ranges] 52
  have k := h.keep (Kp.alloc [] w (.cells #[.bool σ.quiet, σ.vc, σ.vn, .int .i64 σ.ranges] 52)) (fun _ e => by cases e)
  exact ⟨by have := h.blo; have := h.bhi; omega, by omega, by rw [hw]; simp, B.at_ 0 _ rfl, B.at_ 1 _ rfl, B.at_ 2 _ rfl, B.at_ 3 _ rfl, k.o4, k.o5, fun g hg => by have := h.h4 g hg; omega, fun g hg => by have := h.h5 g hg; omega, h.len, fun f hf => ⟨(k.fx f hf).1, (k.fx f hf).2.1, by have := (k.fx f hf).2.2; omega⟩⟩
end

set_option maxRecDepth 100000 in
set_option maxHeartbeats 1000000 in
theorem catchS_idle (p q r : Addr) (w : World) :
    CallsD Tryz.prog 32 #[.pointer (some p), .pointer (some q), .pointer (some r)] .returning w fun e u' w' => e = .returned (.tuple #[]) ∧ u' = .returning ∧ w' = w := by
  refine callsD_of_wpS Tryz.func32 rfl fun c₀ cs hu => ?_
  apply wpS_seq
  apply wpS_region
  simp [wpOpsS, go_sem, recoverD, hu, Tryz.ntmps32, Exit.thenS]
  refine wpS_of_wp ?_
  go_wp2
  cases c₀
  simp_all [bodyPostS, results, Tryz.results32]

/-- What has come of the reading, for those who use it. -/
def Got (w w' : World) (b o : Nat) (src : ByteArray) (T : Sst → Sst → Prop) : Prop := ∃ σ σ', Fresh src σ ∧ T σ σ' ∧ Scr w.heap.size w'.heap.size w' b o σ' ∧ Kp [] w w'

end Go.Proofs.YtonnimbcekhbgaaGreatDoor

/- What is told is put behind what was told. -/
namespace Go.Proofs.YtonnimbcekhbgaaGreatDoor
open Go.RowKit

theorem run_appS {P : Program} {w : World} {base : Nat} {t u ty e : TypeId} {i : TypeInfo} (ht : P.underlying t = some (.slice e)) (hu : P.underlying u = some .string) (hi : P.info? e = some i) (hz : i.zero = some (.int .u8 0)) (hsize : i.size = 1) (hby : i.bytes = 1)
    {v : Value} {n : Nat} {xs : List Value} (hown : w.ownsRow base e 1 v n xs) (s : ByteArray) (h63 : n + s.size ≤ 1000000) (hbase : base ≤ w.heap.size) :
    ∃ v' w', (Builtin.append_ #[t, u] ty #[v, .string s]).run P w = .ok v' w' ∧ w'.ownsRow base e 1 v' (n + s.size) (xs ++ Lib.byteCells s.data.toList) ∧ w.grownBy w' v.ownBlock ∧ ∀ g, v'.ownBlock = some g → v.ownBlock = some g ∨ w.heap.size ≤ g := by
  obtain ⟨v', w', hr, h2, h3, h4⟩ := Lib.run_append_own_string (P := P) w base t u ty e i ht hu hi hz hsize hby v n xs hown s (by unfold maxLen; omega) (by omega) hbase
  refine ⟨v', w', hr, h2, h3, fun g hg => ?_⟩
  rcases hown.2 with ⟨rfl, rfl⟩ | ⟨g', cap, cur, rfl, hbg, hgc, hnc, hcm, hcs, htake⟩
  · by_cases hm : s.size = 0
    · rw [h4.2 ⟨rfl, hm⟩] at hg; cases hg
    · have := run_append_nil_string (P := P) (ty := ty) w t u e i (.int .u8 0) ht hu hi hz s (by omega) (by omega) (by rw [hby]; omega)
      rw [this] at hr
      injection hr with hr _
      subst hr
      have : w.heap.size = g := by simpa [Value.ownBlock] using hg
      exact .inr (by omega)
  · by_cases hroom : n + s.size ≤ cap
    · have := Lib.run_append_room_string (P := P) w t u ty e i ht hu hi hsize g' n cap cur hgc s hroom (by rw [hcs]; omega)
      rw [this] at hr
      injection hr with hr _
      subst hr
      exact .inl hg
    · have hxl : xs.length = n := by simpa using hown.1
      have := Lib.run_append_grow_string (P := P) w t u ty e i (.int .u8 0) ht hu hi hz ⟨g', 0, none⟩ n cap xs (by rw [hsize]; simpa using hxl) (hown.cells (g := g') rfl) s (by omega) (by omega) (by rw [hby]; exact growslice_fits (by omega) (by omega))
      rw [this] at hr
      injection hr with hr _
      subst hr
      have : w.heap.size = g := by simpa [Value.ownBlock] using hg
      exact .inr (by omega)

theorem wpList_appS {P : Program} {ops : Array Oper} {rest : List Oper} {o : Oper} {a : Act} {w : World} {Q : Exit → Act → World → Prop} (hgd : o.guard = none) (sl x : Operand) (t u : TypeId)
    (ho : o.op = .call { callee := .builtin .append, args := #[sl, x], argTypes := #[t, u] })
    (base : Nat) (e : TypeId) (i : TypeInfo) (ht : P.underlying t = some (.slice e)) (hu : P.underlying u = some .string) (hi : P.info? e = some i) (hz : i.zero = some (.int .u8 0))
    (hsize : i.size = 1) (hby : i.bytes = 1)
    (v : Value) (n : Nat) (xs : List Value) (hs : a.eval sl = v) (hown : w.ownsRow base e 1 v n xs) (s : ByteArray) (hx : a.eval x = .string s)
    (h63 : n + s.size ≤ 1000000) (hbase : base ≤ w.heap.size)
    (h : ∀ v' w', w'.ownsRow base e 1 v' (n + s.size) (xs ++ Lib.byteCells s.data.toList) → w.grownBy w' v.ownBlock → (∀ g, v'.ownBlock = some g → v.ownBlock = some g ∨ w.heap.size ≤ g) → wpList P ops Q rest (a.put o.dst v') w') : wpList P ops Q (o :: rest) a w := by
  refine wpList_plain hgd fun K hK => ?_
  obtain ⟨v', w', hr, h2, h3, h4⟩ := run_appS (P := P) (ty := o.type) ht hu hi hz hsize hby hown s h63 hbase
  unfold Oper.wp
  simp [execOp, ho, resolve, invoke, builtin, hs, hx, hr, Result.andThen]
  exact hK _ _ (h v' w' h2 h3 h4)

theorem Tryz.infoByte : (Tryz.prog.info? 5).map (fun i => (i.zero, i.size, i.bytes)) = some (some (.int .u8 0), 1, 1) := by kernel_rfl

/-- What came of telling a text: the row, and what else is as it was. -/
structure Added (mb c : Nat) (v : Value) (lo : Nat) (xs : List UInt8) (text : ByteArray) (w w' : World) (v' : Value) : Prop where
  row : w'.ownsRow lo 5 1 v' (xs.length + text.size + 1) (Lib.byteCells (xs ++ text.data.toList ++ [10]))
  at_ : ∀ g, v'.ownBlock = some g → v.ownBlock = some g ∨ w.heap.size ≤ g
  kp : Kp (mb :: v.ownBlock.toList) w w'
  c7 : w'.cell? ⟨mb, 7, none⟩ = some (.int .i64 ((c + text.size + 1 : Nat) : Int))
  cell : ∀ j, j ≠ 7 → w'.cell? ⟨mb, j, none⟩ = w.cell? ⟨mb, j, none⟩
  free : ∀ j, w'.frozen? ⟨mb, j, none⟩ = w.frozen? ⟨mb, j, none⟩

set_option maxRecDepth 100000 in
set_option maxHeartbeats 2000000 in
theorem add_v {w : World} {mb c lo : Nat} {v : Value} {xs : List UInt8} {text : ByteArray} (c7 : w.cell? ⟨mb, 7, none⟩ = some (.int .i64 c)) (f7 : w.frozen? ⟨mb, 7, none⟩ = false) (hrow : w.ownsRow lo 5 1 v xs.length (Lib.byteCells xs))
    (hne : v.ownBlock ≠ some mb) (hlo : lo ≤ w.heap.size) (hc : c + text.size + 1 ≤ 200000) (hx : xs.length ≤ c) :
    Calls Tryz.prog 121 #[.pointer (some ⟨mb, 5, none⟩), v, .string text] w fun r w' => ∃ v', r = .returned v' ∧ Added mb c v lo xs text w w' v' := by
  obtain ⟨i0, hi, hz0, hz1, hz2⟩ := info_parts Tryz.infoByte
  have HI := hid (And.intro hi (And.intro hz0 (And.intro hz1 hz2)))
  clear hi hz0 hz1 hz2
  have hlt := World.block_lt_of_cell? _ _ c7
  obtain ⟨t1, ht1⟩ : ∃ t1 : Nat, (text.size : Int) + 1 = (t1 : Int) := ⟨text.size + 1, by omega⟩
  obtain ⟨t2, ht2⟩ : ∃ t2 : Nat, (c : Int) + (t1 : Int) = (t2 : Int) := ⟨c + t1, by omega⟩
  have q1 := wrap_i64_nat t1 (by omega)
  have q2 := wrap_i64_nat t2 (by omega)
  have g1 : ¬ 200000 < t2 := by omega
  have k1 : Kp [mb] w (w.setCell ⟨mb, 7, none⟩ (.int .i64 t2)) := Kp.setCell _ _ (by simp)
  have o1 : Hid ((w.setCell ⟨mb, 7, none⟩ (.int .i64 (t2 : Int))).ownsRow lo 5 1 v xs.length (Lib.byteCells xs)) := hid (own_block hrow (fun p hp => k1.block p (own_lt hrow hp).2 (fun e => hne (by simp at e; rw [← e]; exact hp))))
  have HLO : Hid (lo ≤ (w.setCell ⟨mb, 7, none⟩ (.int .i64 (t2 : Int))).heap.size) := hid (Nat.le_trans hlo k1.size)
  go_enter Tryz.func121, Tryz.ntmps121
  go_wp2_with (first
    | (at_builtin; refine wpList_appS rfl _ _ 34 9 rfl lo 5 i0 Tryz.underlying34 Tryz.underlying9 HI.out.1 HI.out.2.1 HI.out.2.2.1 HI.out.2.2.2 v xs.length (Lib.byteCells xs) rfl o1.out text rfl (by omega) HLO.out ?_; intro v2 w2 ho2 hg2 hl2; have HO2 := hid ho2; have HG2 := hid hg2; have HL2 := hid hl2; clear ho2 hg2 hl2)
    | (at_builtin; refine wpList_app rfl _ _ 34 rfl lo 5 i0 (.int .u8 0) 1 1 Tryz.underlying34 HI.out.1 HI.out.2.1 HI.out.2.2.1 HI.out.2.2.2 rfl (by decide) v2 (xs.length + text.size) (Lib.byteCells xs ++ Lib.byteCells text.data.toList) rfl (own_block HO2.out (fun p hp => (Kp.alloc [] w2 _).block p (own_lt HO2.out hp).2 (by simp))) ⟨w2.heap.size, 0, none⟩ 1 1 [.int .u8 10] rfl rfl (fun j u hu => by rw [Addr.add_mid, Nat.zero_add]; exact (Bl.alloc w2 [.int .u8 10] 5).at_ j u hu) (fun u hu => by simp at hu; subst hu; rfl) (by unfold maxLen; omega) (by omega) (Nat.le_trans HLO.out (Nat.le_trans HG2.out.size (Kp.alloc [] w2 _).size)) (by omega) ?_; intro g3 cap3 w3 ho3 hg3 hor3))
  go_ret
  have s1 : (w.setCell ⟨mb, 7, none⟩ (.int .i64 (t2 : Int))).heap.size = w.heap.size := by simp [World.setCell]
  have s2 := HG2.out.size
  have ka := Kp.alloc [] w2 (.cells #[.int .u8 10] 5)
  have sa := ka.size
  have nv2 : ∀ p, p < w.heap.size → p ∉ v.ownBlock.toList → v2.ownBlock ≠ some p := fun p hp hn e => by
    rcases HL2.out p e with q | q
    · exact hn (by rw [q]; simp)
    · omega
  have nmb : mb ∉ v.ownBlock.toList := fun e => hne (by simpa using e)
  have bk : ∀ p, p < w.heap.size → p ∉ v.ownBlock.toList → w3.heap[p]? = (w.setCell ⟨mb, 7, none⟩ (.int .i64 (t2 : Int))).heap[p]? := fun p hp hn =>
    (hg3.block p (by omega) (fun e => nv2 p hp hn (by first | exact e | exact e.symm))).trans ((ka.block p (by omega) (by simp)).trans (HG2.out.block p (by omega) (fun e => hn (by first | (rw [e]; simp) | (rw [← e]; simp)))))
  have bm := bk mb hlt nmb
  refine ⟨_, rfl, ⟨?_, fun g hg => ?_, ⟨?_, ?_, ?_, ?_, fun p hp hn => ?_⟩, ?_, fun j hj => ?_, fun j => ?_⟩⟩
  · have : Lib.byteCells (xs ++ text.data.toList ++ [10]) = Lib.byteCells xs ++ Lib.byteCells text.data.toList ++ [.int .u8 10] := by simp [Lib.byteCells]
    rw [this]
    exact ho3
  · have hg' : g3 = g := by simpa [Value.ownBlock] using hg
    subst hg'
    rcases hor3 with q | q
    · rcases HL2.out g3 q with q | q
      · exact .inl q
      · exact .inr (by omega)
    · exact .inr (by omega)
  · exact hg3.os.trans (ka.os.trans (HG2.out.os.trans k1.os))
  · exact hg3.tape.trans (ka.tape.trans (HG2.out.tape.trans k1.tape))
  · exact hg3.output.trans (ka.output.trans (HG2.out.output.trans k1.output))
  · have := hg3.size; omega
  · have h1 : p ≠ mb := fun e => hn (by simp [e])
    have h2 : p ∉ v.ownBlock.toList := fun e => hn (by simp at e ⊢; exact .inr e)
    exact (bk p hp h2).trans (k1.block p hp (by simpa using h1))
  · rw [World.cell?_of_block bm, cell_same _ c7]
    congr 3
    omega
  · rw [World.cell?_of_block bm]
    exact cell_other _ (fun e => by injection e with _ e2 _; exact hj e2.symm)
  · rw [World.frozen?_of_block bm]
    simp
end Go.Proofs.YtonnimbcekhbgaaGreatDoor
