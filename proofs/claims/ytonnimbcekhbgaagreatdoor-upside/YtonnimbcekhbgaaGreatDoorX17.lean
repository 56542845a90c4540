/- What the claim needs of: HE HF. -/
import Derived.Test.YtonnimbcekhbgaaGreatDoorX16
import Derived.Test.YtonnimbcekhbgaaGreatDoorX14

/- HE. -/
namespace Go.Proofs.YtonnimbcekhbgaaGreatDoor
open Go.RowKit Go.MapKept

section
variable {w0 w : World} {b k : Nat} {src : ByteArray} {σ : Sst}

theorem flatten_get {n : Nat} : ∀ (cs : List (List Value)) (i j : Nat) (c : List Value), (∀ c ∈ cs, c.length = n) → cs[i]? = some c → j < n → cs.flatten[i * n + j]? = c[j]?
  | [], i, _, _, _, h, _ => by simp at h
  | d :: cs, 0, j, c, hl, h, hj => by
    injection h with h
    subst h
    have := hl d (by simp)
    rw [List.flatten_cons, Nat.zero_mul, Nat.zero_add, List.getElem?_append_left (by omega)]
  | d :: cs, i + 1, j, c, hl, h, hj => by
    have := hl d (by simp)
    rw [List.flatten_cons, List.getElem?_append_right (by rw [this, Nat.add_mul]; omega), this, show (i + 1) * n + j - n = i * n + j by rw [Nat.add_mul]; omega]
    exact flatten_get cs i j c (fun c hc => hl c (by simp [hc])) h hj
theorem Sr.cmdCell {i j g cap : Nat} {c : List Value} (h : Sr w0 w b src k σ) (hv : σ.vc = .slice (some ⟨g, 0, none⟩) σ.cs.length cap) (hi : σ.cs[i]? = some c) (hj : j < 23) : w.cell? ⟨g, i * 23 + j, none⟩ = c[j]? := by
  have hlt : i < σ.cs.length := (List.getElem?_eq_some_iff.1 hi).1
  have o4 := h.r.o4
  rw [hv] at o4
  rw [o4.cellAt (i * 23 + j) (by omega)]
  exact flatten_get σ.cs i j c (fun c hc => (h.r.len c hc).1) hi hj

set_option maxRecDepth 100000 in
set_option maxHeartbeats 4000000 in
theorem resolve_v {ci pl n j : Nat} {c : List Value} {x : ByteArray} (hs : Sr w0 w b src k σ) (hc : σ.cs[ci]? = some c) (hx : c[4]? = some (.string x)) (hne : (x.toList == []) = false) (hf : Instr.findNow .string (.string x) (strE 0 σ.ls) 0 = some (some (j, .int .i64 (n : Int)))) :
    Calls Tryz.prog 81 #[.pointer (some ⟨b, 0, none⟩), .agg #[.int .i64 (ci : Int), .int .i64 (pl : Int)]] w fun r w' => r = .returned (.tuple #[]) ∧ Sr w0 w' b src k { σ with cs := σ.cs.set ci (c.set 5 (.int .i64 (n : Int))) } := by
  have hilt : ci < σ.cs.length := (List.getElem?_eq_some_iff.1 hc).1
  obtain ⟨g, cap, ev⟩ := own_some hs.r.o4 (by omega)
  have ka := Kp.alloc [] w (.cells #[.int .i64 (ci : Int), .int .i64 (pl : Int)] 106)
  have BG := Bl.alloc w [.int .i64 (ci : Int), .int .i64 (pl : Int)] 106
  have s1 := hs.keep ka
  have HF := hid hf
  have HEV := hid ev
  clear hf hs
  go_enter Tryz.func81, Tryz.ntmps81
  go_upto_region 1 with fail
  obtain ⟨gb, hgb⟩ : ∃ gb, gb = w.heap.size := ⟨_, rfl⟩
  obtain ⟨w1, hw1⟩ : ∃ w1, w1 = w.alloc (.cells #[.int .i64 (ci : Int), .int .i64 (pl : Int)] 106) := ⟨_, rfl⟩
  rw [← hgb, ← hw1] at BG
  rw [← hw1] at s1
  rw [← hgb, ← hw1]
  clear hgb hw1 ka
  have c4 := s1.c.c4
  rw [ev] at c4
  have d0 := BG.at_ 0 _ rfl
  clear ev
  go_quiet (fail)
  have s2 := s1.keep (Kp.drewN [] w1 nq)
  obtain ⟨w2, hw2⟩ : ∃ w2, w2 = w1.drewN nq := ⟨_, rfl⟩
  rw [← hw2] at s2 ⊢
  clear hw2 s1 BG c4 d0
  have d4 := (s2.cmdCell HEV.out hc (j := 4) (by omega)).trans hx
  go_upto_region 4 with fail
  have c9 := s2.c.c9
  have hlk : ∀ m', (Instr.lookup 80 (.map (some σ.lb)) (.string x) true).run Tryz.prog (w2.drewN m') = .ok (.tuple #[.int .i64 (n : Int), .bool true]) (w2.drewN m') := fun m' =>
    run_lookS2 Tryz.underlying80 Tryz.underlying9 (((Kp.drewN [] w2 m').block _ (s2.r.bk.hi 2 _ rfl) (by simp)).trans s2.r.m9) HF.out
  go_quiet (fail)
  have s3 := s2.keep (Kp.drewN [] w2 nq)
  obtain ⟨w3, hw3⟩ : ∃ w3, w3 = w2.drewN nq := ⟨_, rfl⟩
  rw [← hw3] at s3 ⊢
  clear hw3 hlk c9 d4 s2
  obtain ⟨u5, d5⟩ : ∃ u, w3.cell? ⟨g, ci * 23 + 5, none⟩ = some u := by
    have hl5 : 5 < c.length := by rw [(s3.r.len c (List.mem_of_getElem? hc)).1]; omega
    exact ⟨_, (s3.cmdCell HEV.out hc (j := 5) (by omega)).trans (List.getElem?_eq_getElem hl5)⟩
  have f5 : w3.frozen? ⟨g, ci * 23 + 5, none⟩ = false := by
    have o4 := s3.r.o4
    rw [HEV.out] at o4
    exact o4.frozenAt _
  have S4 := hid (s3.setCmd (i := ci) (j := 5) (v := .int .i64 (n : Int)) HEV.out hc (by omega) rfl)
  go_wp2_with fail
  go_end0
  exact ⟨rfl, S4.out⟩
end
end Go.Proofs.YtonnimbcekhbgaaGreatDoor

/- HF. -/
namespace Go.Proofs.YtonnimbcekhbgaaGreatDoor
open Go.RowKit

section
variable {w0 w : World} {b : Nat} {src : ByteArray} {σ : Sst}

def CmdOkP (w0 : World) (b : Nat) (src : ByteArray) (k e : Nat) (P : Sst → Prop) (T : Sst → Sst → Prop) : Prop :=
  ∀ w σ, Sr w0 w b src k σ → σ.cs.length ≤ 2000 → σ.ranges ≤ 2000 → Small σ 2000 → P σ →
    Calls Tryz.prog 80 #[.pointer (some ⟨b, 0, none⟩)] w fun r w' => r = .returned (.tuple #[]) ∧ ∃ σ', T σ σ' ∧ Sr w0 w' b src e σ'
abbrev Grows (P P' : Sst → Prop) (T : Sst → Sst → Prop) : Prop := ∀ σ σ', P σ → T σ σ' → (σ'.cs.length = σ.cs.length + 1 ∧ σ'.ranges ≤ σ.ranges + 1 ∧ ∀ N, Small σ N → Small σ' (N + 1)) ∧ P' σ'

/-- Commands, one behind the other, to the script's end. -/
inductive CmdsG (w0 : World) (b : Nat) (src : ByteArray) : Nat → Nat → (Sst → Prop) → (Sst → Sst → Prop) → Prop
  | done {k n : Nat} {P : Sst → Prop} (h : btwN src n k = some src.size) : CmdsG w0 b src 0 k P (fun σ σ' => σ' = σ)
  | more {m k n k1 e : Nat} {P P' : Sst → Prop} {T T' : Sst → Sst → Prop} (h : btwN src n k = some k1) (hk : k1 < src.size) (hke : k1 < e) (hc : CmdOkP w0 b src k1 e P T) (hT : Grows P P' T) (hr : CmdsG w0 b src m e P' T') :
      CmdsG w0 b src (m + 1) k P (fun σ σ' => ∃ σ1, T σ σ1 ∧ T' σ1 σ')

theorem CmdsG.btw {m k : Nat} {P : Sst → Prop} {T : Sst → Sst → Prop} (h : CmdsG w0 b src m k P T) : ∃ n k1, btwN src n k = some k1 ∧ ((k1 = src.size ∧ ∀ σ, T σ σ) ∨ (k1 < src.size ∧ ∃ m' e P' T1 T', m = m' + 1 ∧ k1 < e ∧ CmdOkP w0 b src k1 e P T1 ∧ Grows P P' T1 ∧ CmdsG w0 b src m' e P' T' ∧ ∀ σ σ1 σ', T1 σ σ1 → T' σ1 σ' → T σ σ')) := by
  cases h with
  | done h => exact ⟨_, _, h, .inl ⟨rfl, fun _ => rfl⟩⟩
  | more h hk hke hc hT hr => exact ⟨_, _, h, .inr ⟨hk, _, _, _, _, _, rfl, hke, hc, hT, hr, fun σ σ1 σ' h1 h2 => ⟨σ1, h1, h2⟩⟩⟩

/-- Where the reader is, between two commands. -/
def WInvG (w0 : World) (b : Nat) (src : ByteArray) (T : Sst → Sst → Prop) (σ0 : Sst) (k : Nat) (σ : Sst) : Prop :=
  (k = src.size ∧ T σ0 σ) ∨ (k < src.size ∧ ∃ m e P P' T1 T', k < e ∧ CmdOkP w0 b src k e P T1 ∧ Grows P P' T1 ∧ CmdsG w0 b src m e P' T' ∧ (∀ σ1 σ', T1 σ σ1 → T' σ1 σ' → T σ0 σ') ∧ P σ ∧ σ.cs.length + m + 1 ≤ 2000 ∧ σ.ranges + m + 1 ≤ 2000 ∧ ∃ N, Small σ N ∧ N + m + 1 ≤ 2000)
theorem WInvG.start {m k : Nat} {P : Sst → Prop} {T T0 : Sst → Sst → Prop} {σ0 σ : Sst} (h : CmdsG w0 b src m k P T) (hP : P σ) (hT : ∀ σ', T σ σ' → T0 σ0 σ') (h0 : σ.cs.length + m ≤ 2000) (h1 : σ.ranges + m ≤ 2000) (h2 : ∃ N, Small σ N ∧ N + m ≤ 2000) : ∃ n k1, btwN src n k = some k1 ∧ WInvG w0 b src T0 σ0 k1 σ := by
  obtain ⟨n, k1, hb, hh⟩ := h.btw
  refine ⟨n, k1, hb, ?_⟩
  rcases hh with ⟨rfl, hr⟩ | ⟨hk, m', e, P', T1, T', rfl, hke, hc, hT1, hr, hcomp⟩
  · exact .inl ⟨rfl, hT σ (hr σ)⟩
  · exact .inr ⟨hk, m', e, P, P', T1, T', hke, hc, hT1, hr, fun σ1 σ' q1 q2 => hT σ' (hcomp σ σ1 σ' q1 q2), hP, by omega, by omega, h2.elim fun N q => ⟨N, q.1, by have := q.2; omega⟩⟩

/-- Goals, one at most, are resolved. -/
def Rz (σ σ' : Sst) : Prop := (σ.gs = [] ∧ σ' = σ) ∨ ∃ ci pl c x j n, σ.gs = [(ci, pl)] ∧ σ.cs[ci]? = some c ∧ c[4]? = some (.string x) ∧ (x.toList == []) = false ∧ Instr.findNow .string (.string x) (strE 0 σ.ls) 0 = some (some (j, .int .i64 ((n : Nat) : Int))) ∧ σ' = { σ with cs := σ.cs.set ci (c.set 5 (.int .i64 (n : Int))) }

set_option maxRecDepth 100000 in
set_option maxHeartbeats 4000000 in
theorem whole_g {m : Nat} {P : Sst → Prop} {T T2 : Sst → Sst → Prop} (hs : Sr w0 w b src 0 σ) (hc : CmdsG w0 b src m 0 P T) (hP : P { σ with quiet := qtB src }) (h0 : σ.cs.length + m ≤ 2000) (h1 : σ.ranges + m ≤ 2000) (h2 : ∃ N, Small σ N ∧ N + m ≤ 2000) (hT : ∀ σ', T { σ with quiet := qtB src } σ' → σ'.bs = [] ∧ ∃ σ2, Rz σ' σ2 ∧ T2 { σ with quiet := qtB src } σ2) :
    Calls Tryz.prog 35 #[.pointer (some ⟨b, 0, none⟩)] w fun r w' => r = .returned (.tuple #[]) ∧ Whole w0 w' b src σ T2 := by
  obtain ⟨n, k1, hb, hI⟩ := WInvG.start (T0 := T) (σ0 := { σ with quiet := qtB src }) (σ := { σ with quiet := qtB src }) hc hP (fun _ h => h) h0 h1 (h2.elim fun N q => ⟨N, ⟨q.1.ns, q.1.bs, q.1.gs⟩, q.2⟩)
  have HB := hid hb
  have HI := hid hI
  have HT := hid hT
  clear hc hT hb hI h2 hP
  have c0 := hs.cur.c0
  have c3 := hs.c.c3
  have f3 := hs.cur.free 3
  have hsm := hs.cur.small
  go_enter Tryz.func35, Tryz.ntmps35
  go_upto_region 0 with fail
  go_cut [2] from 4 (fun _ wx => wx = w.setCell ⟨b, 3, none⟩ (.bool (qtB src)))
  case first =>
    cases hq : (src.toList == [35, 110])
    · go_wp2_with (go_at_call 77; refine (hasPrefix_k _ _ _).mono ?_; rintro e w1 ⟨rfl, rfl⟩)
      go_meet
      case rel => simp [qtB, hq]
    · go_wp2_with fail
      go_meet
      case rel => simp [qtB, hq]
  case rest =>
  subst hcut
  have s1 := hs.quiet (qtB src)
  go_wp2_with fail
  refine (between_v s1.cur HB.out).mono ?_
  rintro r w2 ⟨rfl, h2, m2⟩
  have s2 := s1.move m2 h2
  go_wp2_with fail
  go_loopw [24] (fun _ wr => ∃ (a : Nat) (σc : Sst), Sr w0 wr b src a σc ∧ Hid (WInvG w0 b src T { σ with quiet := qtB src } a σc)) (fun _ wr => 3000 - curAt wr b)
  case atStart => exact ⟨k1, _, s2, HI⟩
  case round =>
    obtain ⟨a, σc, sc, HW⟩ := hrel
    have HAT := hid (curAt_of sc.cur)
    rcases HW.out with ⟨ha, hTc⟩ | ⟨ha, m', e, P1, P2, T1, T', hke, hcm, hT1, hr, hcomp, hPc, g0, g1, N, hN, g2⟩
    · have he : ((a : Int) == (src.size : Int)) = true := by simp [ha]
      obtain ⟨hbs, σ2, hrz, hT2⟩ := HT.out σc hTc
      have HT2 := hid hT2
      have HA := hid ha
      clear hTc ha HW hT2
      go_wp2_with fail
      refine (ended_v sc.cur he).mono ?_
      rintro r w3 ⟨rfl, h3, m3⟩
      have s3 := sc.move m3 h3
      obtain ⟨A8, q8, e8, _, _⟩ := own_form s3.r.o8
      rw [hbs] at e8
      have c8 := s3.c.c8
      rw [e8] at c8
      rw [HA.out] at s3
      rcases hrz with ⟨hgs, rfl⟩ | ⟨ci, pl, c, x, j, n', hgs, h1', h2', h3', h4', rfl⟩
      · obtain ⟨A11, q11, e11, _, _⟩ := own_form s3.r.o11
        rw [hgs] at e11
        have c11 := s3.c.c11
        rw [e11] at c11
        go_wp2_with fail
        refine wp_loop_rounds 1 ?_
        rw [rounds_succ]
        go_wp2_with fail
        go_end0
        exact ⟨rfl, _, HT2.out, s3⟩
      · obtain ⟨g11, q11, e11⟩ := own_some s3.r.o11 (by rw [hgs]; simp)
        have o11 := s3.r.o11
        rw [e11, hgs] at o11
        have p0 : w3.cell? ⟨g11, 0, none⟩ = some (.int .i64 (ci : Int)) := (o11.cellAt 0 (by simp)).trans rfl
        have p1 : w3.cell? ⟨g11, 1, none⟩ = some (.int .i64 (pl : Int)) := (o11.cellAt 1 (by simp)).trans rfl
        rw [hgs] at e11
        have c11 := s3.c.c11
        rw [e11] at c11
        have ka := Kp.alloc [] w3 (.cells #[.int .i64 (ci : Int), .int .i64 (pl : Int)] 106)
        have BG := Bl.alloc w3 [.int .i64 (ci : Int), .int .i64 (pl : Int)] 106
        have HR := hid (resolve_v (pl := pl) (s3.keep ka) h1' h2' h3' h4')
        clear h1' h2' h3' h4' hgs e11 o11 sc m3 h3 s3
        go_wp2_with fail
        refine wp_loop_rounds 2 ?_
        rw [rounds_succ]
        go_wp2_with fail
        refine HR.out.mono ?_
        rintro r w4 ⟨rfl, s4⟩
        go_wp2_with fail
        rw [rounds_succ]
        go_wp2_with fail
        go_end0
        exact ⟨rfl, _, HT2.out, s4⟩
    · have he : ((a : Int) == (src.size : Int)) = false := by simp; omega
      have HCM := hid hcm
      have HT1 := hid hT1
      have HR := hid hr
      have HCO := hid hcomp
      have HPC := hid hPc
      clear hcm hT1 hr hcomp HW hPc
      go_wp2_with fail
      refine (ended_v sc.cur he).mono ?_
      rintro r w3 ⟨rfl, h3, m3⟩
      go_wp2_with fail
      refine (HCM.out w3 σc (sc.move m3 h3) (by omega) (by omega) (hN.mono (by omega)) HPC.out).mono ?_
      rintro r w4 ⟨rfl, σ1, hTT, s4⟩
      obtain ⟨⟨q0, q1, qN⟩, hP2⟩ := HT1.out _ _ HPC.out hTT
      obtain ⟨n', k', hb', hI'⟩ := WInvG.start (T0 := T) (σ0 := { σ with quiet := qtB src }) HR.out hP2 (fun σ' h => HCO.out σ1 σ' hTT h) (by omega) (by omega) ⟨N + 1, qN N hN, by omega⟩
      have HB' := hid hb'
      have HI' := hid hI'
      have hle := btwN_ge hb'
      clear hb' hI'
      go_wp2_with fail
      refine (between_v s4.cur HB'.out).mono ?_
      rintro r w5 ⟨rfl, h5, m5⟩
      have hle5 := h5.le
      go_wp2_with fail
      go_round
      case rel => exact ⟨k', σ1, s4.move m5 h5, HI'⟩
      case measure => rw [curAt_of h5, HAT.out]; omega

set_option maxRecDepth 100000 in
set_option maxHeartbeats 4000000 in
theorem read_g {w : World} {src : ByteArray} {m : Nat} {P : Sst → Prop} {T T2 : Sst → Sst → Prop} (hsz : src.size ≤ 2000) (hc : ∀ b, CmdsG w b src m 0 P T) (hm : m ≤ 2000) (hP : ∀ σ, Fresh src σ → P σ) (hT : ∀ σ σ', Fresh src σ → T σ σ' → σ'.bs = [] ∧ ∃ σ2, Rz σ' σ2 ∧ T2 σ σ2) :
    Calls Tryz.prog 26 #[.string src] w fun r w' => ∃ p, r = .returned p ∧ ReadS w w' p src T2 := by
  have HC := hid hc
  have HT := hid hT
  have HP := hid hP
  clear hc hT hP
  have g1 : ¬ 2000 < src.size := by omega
  go_enter Tryz.func26, Tryz.ntmps26
  go_wp2_with fail
  refine (clone_k src w (by omega)).mono ?_
  rintro r w1 ⟨rfl, k1⟩
  go_wp2_with fail
  refine (operands_any w1).mono ?_
  rintro r w2 ⟨rfl, ht, k2⟩
  have hz2 : ((w2.alloc (.map #[] 0)).alloc (.map #[] 0)).heap.size = w2.heap.size + 1 + 1 := by simp
  have s5 := sr_start hsz k1 k2 ht (Bl.alloc ((w2.alloc (.map #[] 0)).alloc (.map #[] 0)) (rdV src w1.heap.size w2.heap.size (w2.heap.size + 1)) 83) (Kp.alloc _ _ _)
  rw [hz2] at s5
  have S5 := hid s5
  clear s5
  go_wp2_with (refine wpList_makeMap rfl 80 rfl ?_)
  refine (whole_g S5.out (HC.out _) (HP.out _ ⟨rfl, rfl, rfl, rfl, rfl, rfl, rfl, rfl⟩) (by show 0 + m ≤ 2000; omega) (by show 0 + m ≤ 2000; omega) ⟨0, ⟨Nat.le_refl _, Nat.le_refl _, Nat.le_refl _⟩, by omega⟩ (fun σ' h => HT.out _ σ' ⟨rfl, rfl, rfl, rfl, rfl, rfl, rfl, rfl⟩ h)).mono ?_
  rintro r w6 ⟨rfl, σ', hT', s6⟩
  go_wp2_with fail
  go_ret
  exact ⟨_, rfl, _, _, σ', rfl, ⟨rfl, rfl, rfl, rfl, rfl, rfl, rfl, rfl⟩, hT', s6⟩
/-- What a script is: how it is read. -/
structure ScriptG (src : ByteArray) (T : Sst → Sst → Prop) : Prop where
  size : src.size ≤ 2000
  cmds : ∃ m P T0, m ≤ 2000 ∧ (∀ w0 b, CmdsG w0 b src m 0 P T0) ∧ (∀ σ, Fresh src σ → P σ) ∧ ∀ σ σ', Fresh src σ → T0 σ σ' → σ'.bs = [] ∧ ∃ σ2, Rz σ' σ2 ∧ T σ σ2

set_option maxRecDepth 100000 in
set_option maxHeartbeats 1000000 in
theorem readingSG {src : ByteArray} {T : Sst → Sst → Prop} {w : World} {a : Nat} (ha : w.cell? ⟨a, 0, none⟩ = some (.string src)) (h : ScriptG src T) :
    Calls Tryz.prog 25 #[.pointer (some ⟨a, 0, none⟩)] w fun e w' => ∃ b, e = .returned (.pointer (some ⟨b, 3, none⟩)) ∧ Got w w' b 3 src T := by
  obtain ⟨m, P, T0, hm, hc, hP, hfin⟩ := h.cmds
  have H := hid (read_g h.size (hc w) hm hP hfin)
  clear h hc hm hP hfin
  go_enter Tryz.func25, Tryz.ntmps25
  go_wp2_with fail
  refine H.out.mono ?_
  rintro e w1 ⟨p, rfl, b, σ, σ', rfl, fr, hT, s1⟩
  go_wp2_with fail
  go_ret
  exact ⟨b, rfl, σ, σ', fr, hT, s1.scr, s1.r.kp⟩

set_option maxRecDepth 100000 in
set_option maxHeartbeats 1000000 in
theorem caughtSG {src : ByteArray} {T : Sst → Sst → Prop} {w : World} {a : Nat} (ha : w.cell? ⟨a, 0, none⟩ = some (.string src)) (h : ScriptG src T) :
    Calls Tryz.prog 24 #[.func (.func 25) #[] #[.pointer (some ⟨a, 0, none⟩)]] w fun e w' => ∃ b, e = .returned (.tuple #[.pointer (some ⟨b, 3, none⟩), .int .i64 0, .int .i64 0]) ∧ Got w w' b 3 src T := by
  have hmf : ∀ (fn : Fn) (first cap : Array Value) (w : World), (Instr.makeFunc fn first cap).run Tryz.prog w = .ok (.func fn first cap) w := fun _ _ _ _ => rfl
  go_enter_defers Tryz.func24, Tryz.ntmps24
  go_wp2_with fail
  obtain ⟨W, hW⟩ : ∃ W : World, W = ((w.alloc (.cells #[.pointer none] 45)).alloc (.cells #[.int .i64 0] 36)).alloc (.cells #[.int .i64 0] 3) := ⟨_, rfl⟩
  have kW : Kp [] w W := by rw [hW]; exact (Kp.alloc _ _ _).trans ((Kp.alloc _ _ _).trans (Kp.alloc _ _ _))
  have zW : W.heap.size = w.heap.size + 3 := by rw [hW]; simp
  have a0 : W.cell? ⟨w.heap.size, 0, none⟩ = some (.pointer none) := by rw [hW]; simp [go_sem]
  have a1 : W.cell? ⟨w.heap.size + 1, 0, none⟩ = some (.int .i64 0) := by rw [hW]; simp [go_sem]
  have a2 : W.cell? ⟨w.heap.size + 1 + 1, 0, none⟩ = some (.int .i64 0) := by rw [hW]; simp [go_sem]
  have f0 : W.frozen? ⟨w.heap.size, 0, none⟩ = false := by rw [hW]; simp [go_sem]
  have f1 : W.frozen? ⟨w.heap.size + 1, 0, none⟩ = false := by rw [hW]; simp [go_sem]
  have f2 : W.frozen? ⟨w.heap.size + 1 + 1, 0, none⟩ = false := by rw [hW]; simp [go_sem]
  rw [← hW]
  clear hW
  refine (readingSG ((kW.cell (p := ⟨a, 0, none⟩) (World.block_lt_of_cell? _ _ ha) (by simp)).trans ha) h).mono ?_
  rintro e w1 ⟨p, rfl, σ, σ', fr, hT, sc, k1⟩
  have b0 := (k1.cell (p := ⟨w.heap.size, 0, none⟩) (by simp; omega) (by simp)).trans a0
  have b1 := (k1.cell (p := ⟨w.heap.size + 1, 0, none⟩) (by simp; omega) (by simp)).trans a1
  have b2 := (k1.cell (p := ⟨w.heap.size + 1 + 1, 0, none⟩) (by simp; omega) (by simp)).trans a2
  have g0 := (k1.frozen (p := ⟨w.heap.size, 0, none⟩) (by simp; omega) (by simp)).trans f0
  have g1 := (k1.frozen (p := ⟨w.heap.size + 1, 0, none⟩) (by simp; omega) (by simp)).trans f1
  have g2 := (k1.frozen (p := ⟨w.heap.size + 1 + 1, 0, none⟩) (by simp; omega) (by simp)).trans f2
  clear a0 a1 a2 f0 f1 f2
  go_wp2_with fail
  refine leaves_cons (f := 32) (args := #[.pointer (some ⟨w.heap.size, 0, none⟩), .pointer (some ⟨w.heap.size + 1, 0, none⟩), .pointer (some ⟨w.heap.size + 1 + 1, 0, none⟩)]) (by simp) (by simp [go_sem]) ?_
  refine (catchS_idle _ _ _ _).mono ?_
  rintro e u' w'' ⟨rfl, rfl, rfl⟩
  have K1 : Kp [w.heap.size, w.heap.size + 1, w.heap.size + 1 + 1] w1 (((w1.setCell ⟨w.heap.size, 0, none⟩ (.pointer (some ⟨p, 3, none⟩))).setCell ⟨w.heap.size + 1, 0, none⟩ (.int .i64 0)).setCell ⟨w.heap.size + 1 + 1, 0, none⟩ (.int .i64 0)) :=
    (Kp.setCell _ _ (by simp)).trans ((Kp.setCell _ _ (by simp)).trans (Kp.setCell _ _ (by simp)))
  have sc2 := sc.keep K1 (by intro x hx; simp at hx; omega)
  have K2 := Kp.own (x := w.heap.size) (Kp.own (x := w.heap.size + 1) (Kp.own (x := w.heap.size + 1 + 1) (S := [w.heap.size + 1, w.heap.size]) (((kW.trans k1).mono (by simp)).trans (K1.mono (by simp))) (by omega)) (by omega)) (by omega)
  simp [Leaves, settle, results, Tryz.results24, go_sem, b0, b1, b2]
  exact ⟨σ, σ', fr, hT, by simpa [World.setCell] using sc2.lower (by omega), K2⟩

set_option maxRecDepth 100000 in
set_option maxHeartbeats 1000000 in
theorem readScriptG {src : ByteArray} {T : Sst → Sst → Prop} {w : World} (h : ScriptG src T) :
    Calls Tryz.prog 19 #[.string src] w fun e w' => ∃ b, e = .returned (.tuple #[.pointer (some ⟨b, 3, none⟩), .int .i64 0, .int .i64 0]) ∧ Got w w' b 3 src T := by
  have hmf : ∀ (fn : Fn) (first cap : Array Value) (w : World), (Instr.makeFunc fn first cap).run Tryz.prog w = .ok (.func fn first cap) w := fun _ _ _ _ => rfl
  have k0 := Kp.alloc [] w (.cells #[.string src] 9)
  go_enter Tryz.func19, Tryz.ntmps19
  go_wp2_with fail
  refine (caughtSG (a := w.heap.size) (by simp) h).mono ?_
  rintro e w1 ⟨p, rfl, σ, σ', fr, hT, sc, k1⟩
  go_wp2_with fail
  go_ret3
  exact ⟨p, rfl, σ, σ', fr, hT, sc.lower k0.size, k0.trans k1⟩

set_option maxRecDepth 100000 in
set_option maxHeartbeats 1000000 in
theorem compileG {src : ByteArray} {T : Sst → Sst → Prop} {w : World} (h : ScriptG src T) :
    Calls Tryz.prog 15 #[.string src] w fun e w' => ∃ b, e = .returned (.tuple #[.pointer (some ⟨b, 0, none⟩), .int .i64 0, .int .i64 0]) ∧ Got w w' b 0 src T := by
  go_enter Tryz.func15, Tryz.ntmps15
  go_wp2_with fail
  refine (readScriptG h).mono ?_
  rintro e w1 ⟨p, rfl, σ, σ', fr, hT, sc, k1⟩
  have c0 := sc.c0
  have c1 := sc.c1
  have c2 := sc.c2
  have c3 := sc.c3
  go_wp2_with fail
  go_ret3
  exact ⟨w1.heap.size, rfl, σ, σ', fr, hT, by simpa using sc.copy rfl, k1.trans (Kp.alloc _ _ _)⟩

set_option maxRecDepth 100000 in
set_option maxHeartbeats 8000000 in
theorem doesG {src input : ByteArray} {T : Sst → Sst → Prop} {ah : Bool} {o : List UInt8} {st : Nat} (h : ScriptG src T) (hin : input.size ≤ 100000) (hol : o.length ≤ 1000000)
    (hT : ∀ σ σ', Fresh src σ → T σ σ' → σ'.ns.length ≤ 2000 ∧ σ'.ranges ≤ 2000 ∧ Knows σ' ah ∧ Acts σ' ah input o st) :
    Calls Tryz.prog 12 #[.string src, .string input, .string (ba o), .int .i64 st] w fun r w' => r = .returned (.bool true) ∧ Kp [] w w' := by
  have HC := hid (compileG (w := w) h)
  have HT := hid hT
  clear h hT
  go_enter Tryz.func12, Tryz.ntmps12
  go_wp2_with fail
  refine HC.out.mono ?_
  rintro r w1 ⟨sb, rfl, σ, σ', fr, hTT, sc, k1⟩
  obtain ⟨hns, hrg, hkn, hact⟩ := HT.out σ σ' fr hTT
  have HST := hid (start_v sc (fun wx kx => (hkn _ _ wx sb (sc.keep kx (fun _ e => by cases e))).mono fun r w' ⟨hr, hw⟩ => ⟨hr, by rw [hw]; exact Kp.refl _ _⟩) hns hrg)
  have HACT := hid (hact w1)
  have SC := hid sc
  clear hkn hact HC HT fr hTT sc
  go_wp2_with fail
  refine HST.out.mono ?_
  rintro r w2 ⟨eb, mb, db, fb, rb, rfl, m2, be, far⟩
  obtain ⟨n, p1, hr1, hl1, he1, hh⟩ := HACT.out mb sb db _ _ SC.out
  have HF := hid (efeed_v (data := input) (o := p1.out) (ov := p1.over) (er := p1.err) (st := p1.status) (p' := p1.replied) m2 (be.at_ 0 _ rfl) (fun wx mx => feed_v mx rfl (by show (0 : Nat) + input.size ≤ _; omega) (by
    have : (⟨#[]⟩ : ByteArray) ++ input = input := by rw [← ba_of input]; exact ba_app [] _
    show RunP w1 mb sb db n ({ pst0 ah σ'.ns.length σ'.ranges with left := (⟨#[]⟩ : ByteArray) ++ input } : Pst) p1
    rw [this]; exact hr1) hl1))
  have HE1 := hid he1
  clear HST HACT hr1 he1
  go_wp2_with fail
  refine HF.out.mono ?_
  rintro r w3 ⟨rfl, s3, e3, m3, g3⟩
  clear HF
  have B4 := Bl.alloc w3 (repV p1.out p1.over p1.err p1.status) 42
  have k4 := Kp.alloc [] w3 (.cells (repV p1.out p1.over p1.err p1.status).toArray 42)
  have m4 := m3.keep k4
  have be4 := (g3.bl be far).keep k4 (by simp)
  have farx := (m3.far_new (Nat.le_refl w3.heap.size)).2
  obtain ⟨w4, hw4⟩ : ∃ w4, w4 = w3.alloc (.cells (repV p1.out p1.over p1.err p1.status).toArray 42) := ⟨_, rfl⟩
  obtain ⟨xa, hxa⟩ : ∃ xa, xa = w3.heap.size := ⟨_, rfl⟩
  have kk4 : Kp [] w w4 := by rw [hw4]; exact k1.trans (m3.r.kp.trans k4)
  /- how it ends -/
  have HEND : Hid (∃ o2 er st2, (∀ wx, Mac w1 wx mb sb db s3 → Calls Tryz.prog 23 #[.pointer (some ⟨mb, 0, none⟩)] wx fun r w' => r = .returned (.agg (repV o2 true er st2).toArray) ∧ ∃ p', Goes w1 mb sb db wx s3 w' p') ∧ er = 0 ∧ st2 = st ∧ p1.out ++ o2 = o) := hid (by
    rcases hh with ⟨h1, h2, h3⟩ | ⟨h1, m, p2, h2, h3, h4, h5, h6⟩
    · have eo : s3.over = true := (congrArg Pst.over e3).trans h1
      have eu : s3.r.out = [] := congrArg Pst.out e3
      have ee : s3.err = 0 := (congrArg Pst.err e3).trans HE1.out
      have es : s3.status = st := (congrArg Pst.status e3).trans h3
      have el : s3.left.size ≤ 1000000 := by
        have : s3.left = _ := congrArg Pst.left e3
        rw [this]
        show (if p1.over then (⟨#[]⟩ : ByteArray) else p1.left).size ≤ _
        rw [h1]
        show (0 : Nat) ≤ 1000000
        omega
      refine ⟨s3.r.out, s3.err, s3.status, fun wx mx => (end_over mx eo el).mono fun r w' ⟨hr, hg⟩ => ⟨hr, _, hg⟩, ee, es, by rw [eu, List.append_nil]; exact h2⟩
    · have eo : s3.over = false := (congrArg Pst.over e3).trans h1
      refine ⟨p2.out, p2.err, p2.status, fun wx mx => (end_run mx eo (by rw [e3]; exact h2) h3).mono fun r w' ⟨hr, hg⟩ => ⟨hr, _, hg⟩, h4, h5, h6⟩)
  clear e3
  go_wp2_with fail
  rw [← hw4, ← hxa]
  rw [← hw4, ← hxa] at B4
  rw [← hw4] at m4 be4 k4
  rw [← hxa] at farx
  clear hw4 hxa hh hl1
  obtain ⟨o2, er, st2, hend, her, hst, hcat⟩ := HEND.out
  have HE : Hid (Calls Tryz.prog 18 #[.pointer (some ⟨eb, 0, none⟩)] w4 fun r w' => r = .returned (.agg (repV o2 true er st2).toArray) ∧ ∃ p', Goes w1 mb sb db w4 s3 w' p') := hid (eend_x m4 (be4.at_ 0 _ rfl) hend)
  have g2 : ((er : Int) == 0) = true := by rw [her]; rfl
  have g3' : ((st2 : Int) == (st : Int)) = true := by rw [hst]; simp
  have g4 : ((p1.err : Int) == 0) = true := by rw [HE1.out]; rfl
  clear HEND hend her hst
  refine HE.out.mono ?_
  rintro r w5 ⟨rfl, p', s5, e5, m5, g5⟩
  have ba5 := g5.bl B4 farx
  have k45 : Kp [] w1 w5 := m5.r.kp
  have k6 := Kp.alloc [] w5 (.cells (repV o2 true er st2).toArray 42)
  have ba6 := ba5.keep k6 (by simp)
  have bb6 := Bl.alloc w5 (repV o2 true er st2) 42
  have a0 := ba6.at_ 0 _ rfl
  have a2 := ba6.at_ 2 _ rfl
  have hcmp : ((ba p1.out ++ ba o2).toList == (ba o).toList) = true := by rw [ba_app, hcat]; simp
  have hsz : ¬ 9223372036854775807 < (ba p1.out).size + (ba o2).size := by
    rw [ba_size, ba_size]
    have := congrArg List.length hcat
    rw [List.length_append] at this
    omega
  clear HE hcat
  have b0 := bb6.at_ 0 _ rfl
  have b1 := bb6.at_ 1 _ rfl
  have b2 := bb6.at_ 2 _ rfl
  have b3 := bb6.at_ 3 _ rfl
  go_wp2_with fail
  go_ret
  exact ⟨rfl, k1.trans (k45.trans k6)⟩
end
end Go.Proofs.YtonnimbcekhbgaaGreatDoor
