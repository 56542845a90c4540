/- What the claim needs of: EMToEN. -/
import Derived.Test.YtonnimbcekhbgaaGreatDoorW19
import Derived.Shelf.Strconv.Clone
import Derived.Shelf.Strconv.Itoa3
import Derived.Shelf.Strings.Search2
import Derived.Test.YtonnimbcekhbgaaGreatDoorW00

/- EMToEN. -/
namespace Go.Proofs.YtonnimbcekhbgaaGreatDoor
open Go.RowKit

/-- Is p what s begins with? -/
def pfxB (s p : ByteArray) : Bool := decide (p.size ≤ s.size) && ((s.extract 0 p.size).toList == p.toList)
set_option maxHeartbeats 400000 in
theorem hasPrefix_k (s p : ByteArray) (w : World) :
    Calls Tryz.prog 77 #[.string s, .string p] w fun e w' => e = .returned (.bool (pfxB s p)) ∧ w' = w := by
  go_enter Tryz.func77, Tryz.ntmps77
  go_wp2
  · go_ret
    have h : p.size ≤ s.size := by assumption
    exact ⟨by simp [pfxB, h], rfl⟩
  · go_ret
    have h : ¬ p.size ≤ s.size := by assumption
    exact ⟨by simp [pfxB, h], rfl⟩

theorem btwN_ge {s : ByteArray} : ∀ {n k e : Nat}, btwN s n k = some e → k ≤ e
  | 0, _, _, h => by cases h
  | n + 1, k, e, h => by
    unfold btwN at h
    split at h
    · obtain ⟨a, h1, h2⟩ := Option.bind_eq_some_iff.1 h
      exact Nat.le_trans (cmtN_gt h1) (btwN_ge h2)
    · split at h
      · have := btwN_ge h
        omega
      · injection h with h
        omega

/-- A command that can be read, from one place to another. -/
def CmdOk (w0 : World) (b : Nat) (src : ByteArray) (k e : Nat) (T : Sst → Sst → Prop) : Prop :=
  ∀ w σ, Sr w0 w b src k σ → σ.cs.length ≤ 2000 → σ.ranges ≤ 2000 → Small σ 2000 →
    Calls Tryz.prog 80 #[.pointer (some ⟨b, 0, none⟩)] w fun r w' => r = .returned (.tuple #[]) ∧ ∃ σ', T σ σ' ∧ Sr w0 w' b src e σ'

/-- Commands, one behind the other, to the script's end. -/
inductive Cmds (w0 : World) (b : Nat) (src : ByteArray) : Nat → Nat → (Sst → Sst → Prop) → Prop
  | done {k n : Nat} (h : btwN src n k = some src.size) : Cmds w0 b src 0 k (fun σ σ' => σ' = σ)
  | more {m k n k1 e : Nat} {T T' : Sst → Sst → Prop} (h : btwN src n k = some k1) (hk : k1 < src.size) (hke : k1 < e) (hc : CmdOk w0 b src k1 e T) (hT : ∀ σ σ', T σ σ' → σ'.cs.length = σ.cs.length + 1 ∧ σ'.ranges ≤ σ.ranges + 1 ∧ ∀ N, Small σ N → Small σ' (N + 1)) (hr : Cmds w0 b src m e T') :
      Cmds w0 b src (m + 1) k (fun σ σ' => ∃ σ1, T σ σ1 ∧ T' σ1 σ')

theorem Cmds.btw {w0 : World} {b : Nat} {src : ByteArray} {m k : Nat} {T : Sst → Sst → Prop} (h : Cmds w0 b src m k T) : ∃ n k1, btwN src n k = some k1 ∧ ((k1 = src.size ∧ ∀ σ, T σ σ) ∨ (k1 < src.size ∧ ∃ m' e T1 T', m = m' + 1 ∧ k1 < e ∧ CmdOk w0 b src k1 e T1 ∧ (∀ σ σ', T1 σ σ' → σ'.cs.length = σ.cs.length + 1 ∧ σ'.ranges ≤ σ.ranges + 1 ∧ ∀ N, Small σ N → Small σ' (N + 1)) ∧ Cmds w0 b src m' e T' ∧ ∀ σ σ1 σ', T1 σ σ1 → T' σ1 σ' → T σ σ')) := by
  cases h with
  | done h => exact ⟨_, _, h, .inl ⟨rfl, fun _ => rfl⟩⟩
  | more h hk hke hc hT hr => exact ⟨_, _, h, .inr ⟨hk, _, _, _, _, rfl, hke, hc, hT, hr, fun σ σ1 σ' h1 h2 => ⟨σ1, h1, h2⟩⟩⟩

section
variable {w0 w w' : World} {b k : Nat} {src : ByteArray} {σ : Sst}
theorem srB_quiet (b : Nat) (σ : Sst) (q : Bool) : srB b { σ with quiet := q } = srB b σ := by
  funext i
  rcases i with _ | _ | _ | _ | _ | _ | _ | _ | i <;> rfl
theorem Sr.quiet (h : Sr w0 w b src k σ) (q : Bool) : Sr w0 (w.setCell ⟨b, 3, none⟩ (.bool q)) b src k { σ with quiet := q } := by
  have kp : Kp [b] w (w.setCell ⟨b, 3, none⟩ (.bool q)) := Kp.setCell _ _ (by simp)
  have hc : ∀ j, j ≠ 3 → (w.setCell ⟨b, 3, none⟩ (Value.bool q)).cell? ⟨b, j, none⟩ = w.cell? ⟨b, j, none⟩ := fun j hj => cell_other _ (fun e => by injection e with _ e2 _; exact hj e2.symm)
  refine ⟨⟨by simpa [World.setCell] using h.cur.lt, h.cur.le, h.cur.small, (hc _ (by omega)).trans h.cur.c0, (hc _ (by omega)).trans h.cur.c1, fun i => by simpa using h.cur.free i⟩, ⟨(hc _ (by omega)).trans h.c.c2, cell_same _ h.c.c3, (hc _ (by omega)).trans h.c.c4, (hc _ (by omega)).trans h.c.c5, (hc _ (by omega)).trans h.c.c6, (hc _ (by omega)).trans h.c.c7, (hc _ (by omega)).trans h.c.c8, (hc _ (by omega)).trans h.c.c9, (hc _ (by omega)).trans h.c.c10, (hc _ (by omega)).trans h.c.c11⟩, ?_⟩
  have r := h.r.keep kp (fun x hx => by
    simp at hx
    subst hx
    exact ⟨h.r.bk.lo 0 x rfl, fun i hi e => by have := h.r.bk.ne i 0 x e rfl; omega, fun f hf e => (h.r.fx f hf).2.2 0 (by rw [e]; rfl)⟩)
  exact ⟨r.kp, r.o4, r.o5, r.o8, r.o11, r.m7, r.m9, r.m10, r.len, by rw [srB_quiet]; exact r.bk, by rw [srB_quiet]; exact r.fx⟩

/-- Is it quiet? -/
def qtB (src : ByteArray) : Bool := (src.toList == [35, 110]) || pfxB src ⟨#[35, 110, 10]⟩
/-- What has come of the whole. -/
def Whole (w0 w' : World) (b : Nat) (src : ByteArray) (σ : Sst) (T : Sst → Sst → Prop) : Prop := ∃ σ', T { σ with quiet := qtB src } σ' ∧ Sr w0 w' b src src.size σ'

/-- Where the reader is, between two commands. -/
def WInv (w0 : World) (b : Nat) (src : ByteArray) (T : Sst → Sst → Prop) (σ0 : Sst) (k : Nat) (σ : Sst) : Prop :=
  (k = src.size ∧ T σ0 σ) ∨ (k < src.size ∧ ∃ m e T1 T', k < e ∧ CmdOk w0 b src k e T1 ∧ (∀ σ σ', T1 σ σ' → σ'.cs.length = σ.cs.length + 1 ∧ σ'.ranges ≤ σ.ranges + 1 ∧ ∀ N, Small σ N → Small σ' (N + 1)) ∧ Cmds w0 b src m e T' ∧ (∀ σ1 σ', T1 σ σ1 → T' σ1 σ' → T σ0 σ') ∧ σ.cs.length + m + 1 ≤ 2000 ∧ σ.ranges + m + 1 ≤ 2000 ∧ ∃ N, Small σ N ∧ N + m + 1 ≤ 2000)
theorem WInv.start {m k : Nat} {T T0 : Sst → Sst → Prop} {σ0 σ : Sst} (h : Cmds w0 b src m k T) (hT : ∀ σ', T σ σ' → T0 σ0 σ') (h0 : σ.cs.length + m ≤ 2000) (h1 : σ.ranges + m ≤ 2000) (h2 : ∃ N, Small σ N ∧ N + m ≤ 2000) : ∃ n k1, btwN src n k = some k1 ∧ WInv w0 b src T0 σ0 k1 σ := by
  obtain ⟨n, k1, hb, hh⟩ := h.btw
  refine ⟨n, k1, hb, ?_⟩
  rcases hh with ⟨rfl, hr⟩ | ⟨hk, m', e, T1, T', rfl, hke, hc, hT1, hr, hcomp⟩
  · exact .inl ⟨rfl, hT σ (hr σ)⟩
  · exact .inr ⟨hk, m', e, T1, T', hke, hc, hT1, hr, fun σ1 σ' q1 q2 => hT σ' (hcomp σ σ1 σ' q1 q2), by omega, by omega, h2.elim fun N q => ⟨N, q.1, by have := q.2; omega⟩⟩

set_option maxRecDepth 100000 in
set_option maxHeartbeats 4000000 in
theorem whole_v {m : Nat} {T : Sst → Sst → Prop} (hs : Sr w0 w b src 0 σ) (hc : Cmds w0 b src m 0 T) (h0 : σ.cs.length + m ≤ 2000) (h1 : σ.ranges + m ≤ 2000) (h2 : ∃ N, Small σ N ∧ N + m ≤ 2000) (hT : ∀ σ', T { σ with quiet := qtB src } σ' → σ'.bs = [] ∧ σ'.gs = []) :
    Calls Tryz.prog 35 #[.pointer (some ⟨b, 0, none⟩)] w fun r w' => r = .returned (.tuple #[]) ∧ Whole w0 w' b src σ T := by
  obtain ⟨n, k1, hb, hI⟩ := WInv.start (T0 := T) (σ0 := { σ with quiet := qtB src }) (σ := { σ with quiet := qtB src }) hc (fun _ h => h) h0 h1 (h2.elim fun N q => ⟨N, ⟨q.1.ns, q.1.bs, q.1.gs⟩, q.2⟩)
  have HB := hid hb
  have HI := hid hI
  have HT := hid hT
  clear hc hT hb hI h2
  have c0 := hs.cur.c0
  have c3 := hs.c.c3
  have f3 := hs.cur.free 3
  have hsm := hs.cur.small
  go_enter Tryz.func35, Tryz.ntmps35
  go_upto_region 0 with fail
  go_cut [2] from 4 (fun _ wx => wx = w.setCell ⟨b, 3, none⟩ (.bool (qtB src)))
  case first =>
    cases hq : (src.toList == [35, 110])
    · go_wp2_with (go_at_call 77; refine (hasPrefix_k _ _ _).mono ?_; rintro e w1 ⟨rfl, rfl⟩)
      go_meet
      case rel => simp [qtB, hq]
    · go_wp2_with fail
      go_meet
      case rel => simp [qtB, hq]
  case rest =>
  subst hcut
  have s1 := hs.quiet (qtB src)
  go_wp2_with fail
  refine (between_v s1.cur HB.out).mono ?_
  rintro r w2 ⟨rfl, h2, m2⟩
  have s2 := s1.move m2 h2
  go_wp2_with fail
  go_loopw [24] (fun _ wr => ∃ (a : Nat) (σc : Sst), Sr w0 wr b src a σc ∧ Hid (WInv w0 b src T { σ with quiet := qtB src } a σc)) (fun _ wr => 3000 - curAt wr b)
  case atStart => exact ⟨k1, _, s2, HI⟩
  case round =>
    obtain ⟨a, σc, sc, HW⟩ := hrel
    have HAT := hid (curAt_of sc.cur)
    rcases HW.out with ⟨ha, hTc⟩ | ⟨ha, m', e, T1, T', hke, hcm, hT1, hr, hcomp, g0, g1, N, hN, g2⟩
    · have he : ((a : Int) == (src.size : Int)) = true := by simp [ha]
      obtain ⟨hbs, hgs⟩ := HT.out σc hTc
      have HTC := hid hTc
      have HA := hid ha
      clear hTc ha HW
      go_wp2_with fail
      refine (ended_v sc.cur he).mono ?_
      rintro r w3 ⟨rfl, h3, m3⟩
      have s3 := sc.move m3 h3
      obtain ⟨A8, q8, e8, _, _⟩ := own_form s3.r.o8
      obtain ⟨A11, q11, e11, _, _⟩ := own_form s3.r.o11
      rw [hbs] at e8
      rw [hgs] at e11
      have c8 := s3.c.c8
      have c11 := s3.c.c11
      rw [e8] at c8
      rw [e11] at c11
      go_wp2_with fail
      refine wp_loop_rounds 1 ?_
      rw [rounds_succ]
      go_wp2_with fail
      go_end0
      rw [HA.out] at s3
      exact ⟨rfl, σc, HTC.out, s3⟩
    · have he : ((a : Int) == (src.size : Int)) = false := by simp; omega
      have HCM := hid hcm
      have HT1 := hid hT1
      have HR := hid hr
      have HCO := hid hcomp
      clear hcm hT1 hr hcomp HW
      go_wp2_with fail
      refine (ended_v sc.cur he).mono ?_
      rintro r w3 ⟨rfl, h3, m3⟩
      go_wp2_with fail
      refine (HCM.out w3 σc (sc.move m3 h3) (by omega) (by omega) (hN.mono (by omega))).mono ?_
      rintro r w4 ⟨rfl, σ1, hTT, s4⟩
      obtain ⟨q0, q1, qN⟩ := HT1.out _ _ hTT
      obtain ⟨n', k', hb', hI'⟩ := WInv.start (T0 := T) (σ0 := { σ with quiet := qtB src }) HR.out (fun σ' h => HCO.out σ1 σ' hTT h) (by omega) (by omega) ⟨N + 1, qN N hN, by omega⟩
      have HB' := hid hb'
      have HI' := hid hI'
      have hle := btwN_ge hb'
      clear hb' hI'
      go_wp2_with fail
      refine (between_v s4.cur HB'.out).mono ?_
      rintro r w5 ⟨rfl, h5, m5⟩
      have hle5 := h5.le
      go_wp2_with fail
      go_round
      case rel => exact ⟨k', σ1, s4.move m5 h5, HI'⟩
      case measure => rw [curAt_of h5, HAT.out]; omega
end
end Go.Proofs.YtonnimbcekhbgaaGreatDoor

/- One text out of several: EQ EN. -/
/- The library's small functions at this program: the layings' plain text, and what is used of them. -/
namespace Go.Proofs.YtonnimbcekhbgaaGreatDoor
open Go.Shelf Go.RowKit
def Tryz.laysM316_ren : Go.Shelf.Ren := ⟨fun | 316 => 66 | n => n, fun | 9 => 9 | 3 => 3 | 4 => 4 | 37 => 34 | 0 => 0 | 127 => 127 | 5 => 5 | n => n, fun | n => n⟩
theorem Tryz.laysM316 : Go.Proofs.LaysM.n316 Tryz.prog Tryz.laysM316_ren := {
  mixed := by kernel_rfl
  f316 := Tryz.func66.trans (congrArg some (by kernel_rfl))
  t0 := Tryz.underlying0
  a0 := Tryz.isAgg0
  z0 := Tryz.sizeOf0
  v0 := Tryz.zeroValue0
  t3 := Tryz.underlying3
  a3 := Tryz.isAgg3
  z3 := Tryz.sizeOf3
  v3 := Tryz.zeroValue3
  t4 := Tryz.underlying4
  a4 := Tryz.isAgg4
  z4 := Tryz.sizeOf4
  v4 := Tryz.zeroValue4
  t9 := Tryz.underlying9
  a9 := Tryz.isAgg9
  z9 := Tryz.sizeOf9
  v9 := Tryz.zeroValue9
  t37 := Tryz.underlying34
  a37 := Tryz.isAgg34
  z37 := Tryz.sizeOf34
  v37 := Tryz.zeroValue34
  t127 := Tryz.underlying127
  a127 := Tryz.isAgg127
  z127 := Tryz.sizeOf127
  v127 := Tryz.zeroValue127
  t5 := Tryz.underlying5
  a5 := Tryz.isAgg5
  z5 := Tryz.sizeOf5
  v5 := Tryz.zeroValue5
  i0 := by kernel_rfl
  i3 := by kernel_rfl
  i4 := by kernel_rfl
  i5 := by kernel_rfl
  i9 := by kernel_rfl
  i37 := by kernel_rfl
  i127 := by kernel_rfl }
def Tryz.lays219_ren : Go.Shelf.Ren := ⟨fun | 219 => 139 | 217 => 142 | 225 => 147 | 224 => 148 | 267 => 149 | 266 => 155 | 314 => 158 | n => n, fun | 9 => 9 | 3 => 3 | 4 => 4 | 5 => 5 | 46 => 145 | 146 => 200 | 51 => 199 | n => n, fun | 1 => 0 | n => n⟩
theorem Tryz.lays219 : Go.Proofs.Lays.n219 Tryz.prog Tryz.lays219_ren := {
  mixed := by kernel_rfl
  f217 := Tryz.func142.trans (congrArg some (by kernel_rfl))
  f219 := Tryz.func139.trans (congrArg some (by kernel_rfl))
  f224 := Tryz.func148.trans (congrArg some (by kernel_rfl))
  f225 := Tryz.func147.trans (congrArg some (by kernel_rfl))
  f266 := Tryz.func155.trans (congrArg some (by kernel_rfl))
  f267 := Tryz.func149.trans (congrArg some (by kernel_rfl))
  f314 := Tryz.func158.trans (congrArg some (by kernel_rfl))
  t3 := Tryz.underlying3
  a3 := Tryz.isAgg3
  z3 := Tryz.sizeOf3
  v3 := Tryz.zeroValue3
  t4 := Tryz.underlying4
  a4 := Tryz.isAgg4
  z4 := Tryz.sizeOf4
  v4 := Tryz.zeroValue4
  t5 := Tryz.underlying5
  a5 := Tryz.isAgg5
  z5 := Tryz.sizeOf5
  v5 := Tryz.zeroValue5
  t9 := Tryz.underlying9
  a9 := Tryz.isAgg9
  z9 := Tryz.sizeOf9
  v9 := Tryz.zeroValue9
  t46 := Tryz.underlying145
  a46 := Tryz.isAgg145
  z46 := Tryz.sizeOf145
  v46 := Tryz.zeroValue145
  t51 := Tryz.underlying199
  a51 := Tryz.isAgg199
  z51 := Tryz.sizeOf199
  v51 := Tryz.zeroValue199
  t146 := Tryz.underlying200
  a146 := Tryz.isAgg200
  z146 := Tryz.sizeOf200
  v146 := Tryz.zeroValue200
  g1 := by kernel_rfl }

theorem clone0 (s : ByteArray) (w : World) (h : s.size ≤ 281474976710656) :
    Calls Tryz.prog 66 #[.string s] w fun e w' => e = .returned (.string s) ∧ Kp [] w w' :=
  (Any.stringslite_Clone Tryz.laysM316 s w h).mono fun _ _ ⟨he, hb⟩ => ⟨he, Kp.of_below hb⟩
theorem clone_k (s : ByteArray) (w : World) (h : s.size ≤ 281474976710656) :
    Calls Tryz.prog 33 #[.string s] w fun e w' => e = .returned (.string s) ∧ Kp [] w w' := by
  go_enter Tryz.func33, Tryz.ntmps33
  go_wp2_with fail
  refine (clone0 s w h).mono ?_
  rintro e w1 ⟨rfl, k1⟩
  go_wp2_with fail
  go_ret
  exact ⟨rfl, k1⟩
theorem index_k (s : ByteArray) (c : UInt8) (w : World) :
    Calls Tryz.prog 139 #[.string s, .string ⟨#[c]⟩] w fun e w' => e = .returned (.int .i64 (Lib.indexByte s.data.toList c)) ∧ w' = w := Any.stringslite_Index_one Tryz.lays219 s c w
end Go.Proofs.YtonnimbcekhbgaaGreatDoor

/- A script is read. -/
namespace Go.Proofs.YtonnimbcekhbgaaGreatDoor
open Go.RowKit

/-- Nothing is read yet. -/
structure Fresh (src : ByteArray) (σ : Sst) : Prop where
  quiet : σ.quiet = qtB src
  cs : σ.cs = []
  ns : σ.ns = []
  ranges : σ.ranges = 0
  bs : σ.bs = []
  gs : σ.gs = []
  ls : σ.ls = []
  nm : σ.nm = []

/-- What has come of the reading. -/
def ReadS (w w' : World) (p : Value) (src : ByteArray) (T : Sst → Sst → Prop) : Prop := ∃ b σ σ', p = .pointer (some ⟨b, 3, none⟩) ∧ Fresh src σ ∧ T σ σ' ∧ Sr w w' b src src.size σ'

abbrev rdV (src : ByteArray) (ob lb nb : Nat) : List Value := [.string src, .int .i64 0, .int .i64 4, .bool false, .slice none 0 0, .slice none 0 0, .int .i64 0, .map (some ob), .slice none 0 0, .map (some lb), .map (some nb), .slice none 0 0]
def st0 (ob lb nb : Nat) : Sst := ⟨false, .slice none 0 0, [], .slice none 0 0, [], 0, ob, lb, nb, .slice none 0 0, [], .slice none 0 0, [], [], [], []⟩

theorem sr_start {w w1 w2 w5 : World} {src : ByteArray} (hsz : src.size ≤ 2000) (k1 : Kp [] w w1) (k2 : Kp [] w1 w2) (ht : w2.heap[w1.heap.size]? = some (tabO opsL)) (B : Bl w5 ((w2.alloc (.map #[] 0)).alloc (.map #[] 0)).heap.size (rdV src w1.heap.size w2.heap.size (w2.heap.size + 1))) (k5 : Kp [] ((w2.alloc (.map #[] 0)).alloc (.map #[] 0)) w5) :
    Sr w w5 ((w2.alloc (.map #[] 0)).alloc (.map #[] 0)).heap.size src 0 (st0 w1.heap.size w2.heap.size (w2.heap.size + 1)) := by
  obtain ⟨b, hb⟩ : ∃ b, b = ((w2.alloc (.map #[] 0)).alloc (.map #[] 0)).heap.size := ⟨_, rfl⟩
  have hb2 : b = w2.heap.size + 2 := by rw [hb]; simp
  have klt := lt_blk ht
  have s1 := k1.size
  have ka : Kp [] w2 w5 := ((Kp.alloc [] _ _).trans (Kp.alloc _ _ _)).trans k5
  have hz1 : (w2.alloc (.map #[] 0)).heap.size = w2.heap.size + 1 := by simp
  have hz2 : ((w2.alloc (.map #[] 0)).alloc (.map #[] 0)).heap.size = w2.heap.size + 2 := by simp
  have m2 : w5.heap[w2.heap.size]? = some (.map #[] 0) :=
    (k5.block _ (by omega) (by simp)).trans (((Kp.alloc [] (w2.alloc (.map #[] 0)) _).block _ (by omega) (by simp)).trans (heap_alloc_new w2 _))
  have m3 : w5.heap[w2.heap.size + 1]? = some (.map #[] 0) := by
    refine (k5.block _ (by omega) (by simp)).trans ?_
    rw [← hz1]
    exact heap_alloc_new (w2.alloc (.map #[] 0)) _
  rw [← hb] at B ⊢
  have blt := B.lt
  have hB : ∀ i p, srB b (st0 w1.heap.size w2.heap.size (w2.heap.size + 1)) i = some p → (i = 0 ∧ p = b) ∨ (i = 1 ∧ p = w1.heap.size) ∨ (i = 2 ∧ p = w2.heap.size) ∨ (i = 3 ∧ p = w2.heap.size + 1) := fun i p hp => by
    rcases i with _ | _ | _ | _ | _ | _ | _ | _ | i <;> simp [srB, st0, Value.ownBlock] at hp <;> omega
  refine ⟨⟨blt, Nat.zero_le _, hsz, B.at_ 0 _ rfl, B.at_ 1 _ rfl, B.free⟩, ⟨B.at_ 2 _ rfl, B.at_ 3 _ rfl, B.at_ 4 _ rfl, B.at_ 5 _ rfl, B.at_ 6 _ rfl, B.at_ 7 _ rfl, B.at_ 8 _ rfl, B.at_ 9 _ rfl, B.at_ 10 _ rfl, B.at_ 11 _ rfl⟩, ⟨k1.trans (k2.trans ka), World.ownsRow_nil _ _ _ _, World.ownsRow_nil _ _ _ _, World.ownsRow_nil _ _ _ _, World.ownsRow_nil _ _ _ _, (ka.block _ klt (by simp)).trans ht, m2, m3, (fun c hc => by cases hc), ⟨fun i p hp => ?_, fun i p hp => ?_, fun i j p hi hj => ?_⟩, (fun f hf => by cases hf)⟩⟩
  · have := hB i p hp; omega
  · have := hB i p hp; omega
  · have := hB i p hi; have := hB j p hj; omega

set_option maxRecDepth 100000 in
set_option maxHeartbeats 4000000 in
theorem read_v {w : World} {src : ByteArray} {m : Nat} {T : Sst → Sst → Prop} (hsz : src.size ≤ 2000) (hc : ∀ b, Cmds w b src m 0 T) (hm : m ≤ 2000) (hT : ∀ σ σ', Fresh src σ → T σ σ' → σ'.bs = [] ∧ σ'.gs = []) :
    Calls Tryz.prog 26 #[.string src] w fun r w' => ∃ p, r = .returned p ∧ ReadS w w' p src T := by
  have HC := hid hc
  have HT := hid hT
  clear hc hT
  have g1 : ¬ 2000 < src.size := by omega
  go_enter Tryz.func26, Tryz.ntmps26
  go_wp2_with fail
  refine (clone_k src w (by omega)).mono ?_
  rintro r w1 ⟨rfl, k1⟩
  go_wp2_with fail
  refine (operands_any w1).mono ?_
  rintro r w2 ⟨rfl, ht, k2⟩
  have hz2 : ((w2.alloc (.map #[] 0)).alloc (.map #[] 0)).heap.size = w2.heap.size + 1 + 1 := by simp
  have s5 := sr_start hsz k1 k2 ht (Bl.alloc ((w2.alloc (.map #[] 0)).alloc (.map #[] 0)) (rdV src w1.heap.size w2.heap.size (w2.heap.size + 1)) 83) (Kp.alloc _ _ _)
  rw [hz2] at s5
  have S5 := hid s5
  clear s5
  go_wp2_with (refine wpList_makeMap rfl 80 rfl ?_)
  refine (whole_v S5.out (HC.out _) (by show 0 + m ≤ 2000; omega) (by show 0 + m ≤ 2000; omega) ⟨0, ⟨Nat.le_refl _, Nat.le_refl _, Nat.le_refl _⟩, by omega⟩ (fun σ' h => HT.out _ σ' ⟨rfl, rfl, rfl, rfl, rfl, rfl, rfl, rfl⟩ h)).mono ?_
  rintro r w6 ⟨rfl, σ', hT', s6⟩
  go_wp2_with fail
  go_ret
  exact ⟨_, rfl, _, _, σ', rfl, ⟨rfl, rfl, rfl, rfl, rfl, rfl, rfl, rfl⟩, hT', s6⟩
end Go.Proofs.YtonnimbcekhbgaaGreatDoor
