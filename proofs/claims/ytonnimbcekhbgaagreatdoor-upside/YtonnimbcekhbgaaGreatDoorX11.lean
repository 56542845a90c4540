/- What the claim needs of: EXToFC. -/
import Derived.Test.YtonnimbcekhbgaaGreatDoorX10
import Derived.Laws.MakeOwn

/- EXToFC. -/
namespace Go.Proofs.YtonnimbcekhbgaaGreatDoor
open Go.RowKit

section
variable {w0 w w' w2 : World} {mb sb db lo hi : Nat} {s s' : Mst} {σ : Sst}

theorem flat_at : ∀ (cs : List (List Value)), (∀ c ∈ cs, c.length = 23) → ∀ (i j : Nat) (c : List Value), cs[i]? = some c → j < 23 → cs.flatten[i * 23 + j]? = c[j]?
  | [], _, i, j, c, h, _ => by simp at h
  | d :: cs, hl, 0, j, c, h, hj => by
    injection h with h
    subst h
    rw [List.flatten_cons, Nat.zero_mul, Nat.zero_add, List.getElem?_append_left (by rw [hl d (by simp)]; exact hj)]
  | d :: cs, hl, i + 1, j, c, h, hj => by
    have hd := hl d (by simp)
    rw [List.flatten_cons, List.getElem?_append_right (by rw [hd]; omega), hd, show (i + 1) * 23 + j - 23 = i * 23 + j by omega]
    exact flat_at cs (fun c hc => hl c (by simp [hc])) i j c (by simpa using h) hj

/-- A command's cells. -/
theorem Scr.cmd (h : Scr lo hi w sb 0 σ) {i : Nat} {c : List Value} (hc : σ.cs[i]? = some c) : ∃ g cap, σ.vc = .slice (some ⟨g, 0, none⟩) σ.cs.length cap ∧ ∀ j u, c[j]? = some u → w.cell? ⟨g, i * 23 + j, none⟩ = some u := by
  have hi := (List.getElem?_eq_some_iff.1 hc).1
  rcases h.o4.2 with ⟨_, q⟩ | ⟨g, cap, cur, q1, q2, q3, q4⟩
  · omega
  · refine ⟨g, cap, q1, fun j u hu => ?_⟩
    have hj : j < 23 := by
      have := (List.getElem?_eq_some_iff.1 hu).1
      rw [h.len c (List.mem_of_getElem? hc)] at this
      exact this
    have o := h.o4
    rw [q1] at o
    rw [o.cellAt (i * 23 + j) (by have : (i + 1) * 23 ≤ σ.cs.length * 23 := Nat.mul_le_mul_right _ hi; omega), flat_at σ.cs h.len i j c hc hj]
    exact hu

set_option maxRecDepth 100000 in
set_option maxHeartbeats 2000000 in
theorem look_end (h : Mac w0 w mb sb db s) (hs : Scr lo hi w0 sb 0 σ) (hr : Room s s.space) (hpc : s.pc = σ.cs.length) :
    Calls Tryz.prog 63 #[.pointer (some ⟨mb, 0, none⟩)] w fun r w' => r = .returned (.tuple #[]) ∧ Goes w0 mb sb db w s w' (s.p.endCycle σ.quiet) := by
  have hsw := hs.keep h.r.kp (fun _ e => by cases e)
  obtain ⟨A, c, e, _, _⟩ := own_form hsw.o4
  have c1 := hsw.c1
  rw [e] at c1
  have c0 := h.b.at_ 0 _ rfl
  have c13 := h.b.at_ 13 _ rfl
  rw [hpc] at c13
  go_enter Tryz.func63, Tryz.ntmps63
  go_wp2_with fail
  go_quiet (fail)
  go_wp2_with fail
  refine (endCycle_v (h.keep (Kp.drewN [] w nq)) hs hr).mono ?_
  rintro r w1 ⟨rfl, g1⟩
  go_wp2_with fail
  refine bodyPost_ret (results_none rfl _ _ _) rfl ?_
  exact ⟨rfl, g1.pre (Kp.drewN [] w nq)⟩

set_option maxRecDepth 100000 in
set_option maxHeartbeats 4000000 in
theorem look_do {x i f g cap : Nat} {nt b : Bool} {c : List Value} {p2 p3 : Pst} (h : Mac w0 w mb sb db s) (hs : Scr lo hi w0 sb 0 σ) (hc : σ.cs[s.pc]? = some c) (hv : σ.vc = .slice (some ⟨g, 0, none⟩) σ.cs.length cap) (hx : c[3]? = some (.int .u8 x)) (hnt : c[2]? = some (.bool nt))
    (ht : Instr.findNow (.int .u8) (.int .u8 x) (tabE 0 deedsL) 0 = some (some (i, .func (.func f) #[] #[]))) (hst : s.steps < 2000) (hpc : s.pc < 2000) (hen : Enters f)
    (hA : ∀ w1 s1, Mac w0 w1 mb sb db s1 → s1.p = ({ s.p with pc := s.pc + 1, steps := s.steps + 1 } : Pst) → Calls Tryz.prog 100 #[.pointer (some ⟨mb, 0, none⟩), .pointer (some ⟨g, s.pc * 23, none⟩)] w1 fun r w' => r = .returned (.bool b) ∧ Goes w0 mb sb db w1 s1 w' p2)
    (hb : b = !nt) (hD : ∀ w2 s2, Mac w0 w2 mb sb db s2 → s2.p = p2 → Calls Tryz.prog f #[.pointer (some ⟨mb, 0, none⟩), .pointer (some ⟨g, s.pc * 23, none⟩)] w2 fun r w' => r = .returned (.tuple #[]) ∧ Goes w0 mb sb db w2 s2 w' p3) :
    Calls Tryz.prog 63 #[.pointer (some ⟨mb, 0, none⟩)] w fun r w' => r = .returned (.tuple #[]) ∧ Goes w0 mb sb db w s w' p3 := by
  have hsw := hs.keep h.r.kp (fun _ e => by cases e)
  obtain ⟨g', cap', e, hcell⟩ := hsw.cmd hc
  obtain rfl : g' = g := by rw [hv] at e; injection e with e _ _; injection e with e; injection e with e; exact e.symm
  have hlt := (List.getElem?_eq_some_iff.1 hc).1
  have c1 := hsw.c1
  rw [hv] at c1
  have c0 := h.b.at_ 0 _ rfl
  have c13 := h.b.at_ 13 _ rfl
  have hne : ((s.pc : Int) == (σ.cs.length : Int)) = false := by rw [beq_eq_false_iff_ne]; omega
  have HA := hid hA
  have HD := hid hD
  have HS := hid hs
  have HC := hid hcell
  clear hA hD hs hcell e
  go_enter Tryz.func63, Tryz.ntmps63
  go_wp2_with fail
  go_quiet (fail)
  have ha := h.keep (Kp.drewN [] w nq)
  have ga : Gr mb db w s.r (w.drewN nq) s.r := Gr.of_kp (Kp.drewN [] w nq) (fun _ e => by cases e)
  have hca : ∀ j u, c[j]? = some u → (w.drewN nq).cell? ⟨g', s.pc * 23 + j, none⟩ = some u := HC.out
  have c1a : (w.drewN nq).cell? ⟨sb, 0 + 1, none⟩ = some (.slice (some ⟨g', 0, none⟩) σ.cs.length cap) := c1
  clear c0 c1 c13 hsw HC
  obtain ⟨wa, hwa⟩ : ∃ wa, wa = w.drewN nq := ⟨_, rfl⟩
  rw [← hwa] at ha ga hca c1a ⊢
  clear hwa
  have HCA := hid hca
  clear hca
  have c0 := ha.b.at_ 0 _ rfl
  have c13 := ha.b.at_ 13 _ rfl
  have f13 := ha.b.free 13
  go_wp2_with fail
  go_quiet (fail)
  obtain ⟨wb, hwb⟩ : ∃ wb, wb = wa.drewN nq := ⟨_, rfl⟩
  have hb' := ha.keep (Kp.drewN [] wa nq)
  have gb := ga.trans (Gr.of_kp (r := s.r) (Kp.drewN [] wa nq) (fun _ e => by cases e))
  have hcb : ∀ j u, c[j]? = some u → (wa.drewN nq).cell? ⟨g', s.pc * 23 + j, none⟩ = some u := HCA.out
  rw [← hwb] at hb' gb hcb ⊢
  clear hwb c0 c13 f13 c1a HCA ha ga h
  have c13 := hb'.b.at_ 13 _ rfl
  have f13 := hb'.b.free 13
  have HCB := hid hcb
  clear hcb
  obtain ⟨n1, hn1⟩ : ∃ n1 : Nat, n1 = s.pc + 1 := ⟨_, rfl⟩
  have wr := wrap_i64_succ s.pc n1 hn1 (by omega)
  have m1 := hb'.set (s' := { s with pc := n1 }) 13 (.int .i64 (n1 : Int)) (by omega) rfl rfl
  have g1 := gb.trans (Gr.set (mb := mb) (db := db) wb s.r 13 (.int .i64 (n1 : Int)))
  have hc1 : ∀ j u, c[j]? = some u → (wb.setCell ⟨mb, 13, none⟩ (.int .i64 (n1 : Int))).cell? ⟨g', s.pc * 23 + j, none⟩ = some u := ((HS.out.keep m1.r.kp (fun _ e => by cases e)).cmd hc).elim fun g2 q => q.elim fun cap2 q => by
    obtain ⟨e, q⟩ := q
    obtain rfl : g2 = g' := by rw [hv] at e; injection e with e _ _; injection e with e; injection e with e; exact e.symm
    exact q
  have HN1 := hid hn1
  have M1 := hid m1
  have G1 := hid g1
  have HC1 := hid hc1
  clear hn1 m1 g1 hc1 gb hb'
  go_wp2_with fail
  obtain ⟨w1, hw1⟩ : ∃ w1, w1 = wb.setCell ⟨mb, 13, none⟩ (.int .i64 (n1 : Int)) := ⟨_, rfl⟩
  rw [← hw1] at M1 G1 HC1 ⊢
  clear hw1 c13 f13 HCB wr
  have e1 := M1.out.b.at_ 1 _ rfl
  have k3 := HC1.out 3 _ hx
  have hlk : ∀ m, (Instr.lookup 61 (.map (some db)) (.int .u8 x) true).run Tryz.prog (w1.drewN m) = .ok (.tuple #[.func (.func f) #[] #[], .bool true]) (w1.drewN m) := fun m =>
    run_lookB Tryz.underlying61 Tryz.underlying5 (((Kp.drewN [] w1 m).block _ (M1.out.r.bk.hi 1 _ rfl) (by simp)).trans M1.out.r.md) ht
  go_quiet (fail)
  have m2 := M1.out.keep (Kp.drewN [] w1 nq)
  have g2 := G1.out.trans (Gr.of_kp (r := s.r) (Kp.drewN [] w1 nq) (fun _ e => by cases e))
  have h2 : ∀ j u, c[j]? = some u → (w1.drewN nq).cell? ⟨g', s.pc * 23 + j, none⟩ = some u := HC1.out
  obtain ⟨wd, hwd⟩ : ∃ wd, wd = w1.drewN nq := ⟨_, rfl⟩
  rw [← hwd] at m2 g2 h2 ⊢
  clear hwd M1 G1 HC1 e1 k3 hlk
  have c14 := m2.b.at_ 14 _ rfl
  have f14 := m2.b.free 14
  obtain ⟨n2, hn2⟩ : ∃ n2 : Nat, n2 = s.steps + 1 := ⟨_, rfl⟩
  have wr := wrap_i64_succ s.steps n2 hn2 (by omega)
  have q2 : ¬ 2000 < n2 := by omega
  have m3 := m2.set (s' := { s with pc := n1, steps := n2 }) 14 (.int .i64 (n2 : Int)) (by omega) rfl rfl
  have g3 := g2.trans (Gr.set (mb := mb) (db := db) wd s.r 14 (.int .i64 (n2 : Int)))
  have hsc := HS.out.keep m3.r.kp (fun _ e => by cases e)
  have key : ∀ wx, Kp [] w0 wx → ∀ j u, c[j]? = some u → wx.cell? ⟨g', s.pc * 23 + j, none⟩ = some u := fun wx kx => ((HS.out.keep kx (fun _ e => by cases e)).cmd hc).elim fun g2 q => q.elim fun cap2 q => by
    obtain ⟨e, q⟩ := q
    obtain rfl : g2 = g' := by rw [hv] at e; injection e with e _ _; injection e with e; injection e with e; exact e.symm
    exact q
  have KEY := hid key
  have M3 := hid m3
  have G3 := hid g3
  have HN2 := hid hn2
  clear key hsc m2 g2 h2 hn2
  go_wp2_with fail
  obtain ⟨w3, hw3⟩ : ∃ w3, w3 = wd.setCell ⟨mb, 14, none⟩ (.int .i64 (n2 : Int)) := ⟨_, rfl⟩
  rw [← hw3] at M3 G3 ⊢
  clear hw3 c14 f14 m3 g3 wr
  have HAA := hid (HA.out (w3.drew) { s with pc := n1, steps := n2 } (M3.out.keep (Kp.drew [] w3)) (by rw [HN1.out, HN2.out]; rfl))
  have k2 := KEY.out _ M3.out.r.kp 2 _ hnt
  unfold Enters at hen
  go_cut [66] from 67 (fun v wx => v = .bool true ∧ ∃ s4, s4.p = p2 ∧ Mac w0 wx mb sb db s4 ∧ Gr mb db w s.r wx s4.r)
  case first =>
    go_region_with (go_at_call 100; refine HAA.out.mono ?_; rintro r w4 ⟨rfl, s4, e4, m4, g4⟩; have k2' := KEY.out _ m4.r.kp 2 _ hnt)
    all_goals
      go_wp2_with fail
      go_meet
      case rel => exact ⟨by subst hb; cases nt <;> rfl, s4, e4, m4, G3.out.trans ((Gr.of_kp (r := s.r) (Kp.drew [] w3) (fun _ e => by cases e)).trans g4)⟩
  case rest =>
  obtain ⟨rfl, s4, e4, m4, g4⟩ := hcut
  go_wp2_with fail
  refine (HD.out _ s4 m4 e4).mono ?_
  rintro r w5 ⟨rfl, s5, e5, m5, g5⟩
  go_wp2_with fail
  go_end0
  exact ⟨rfl, s5, e5, m5, g4.trans g5⟩
end
end Go.Proofs.YtonnimbcekhbgaaGreatDoor

/- The machine: where a command is done. -/
namespace Go.Proofs.YtonnimbcekhbgaaGreatDoor
open Go.RowKit

section
variable {w0 w w' w2 : World} {mb sb db lo hi : Nat} {s s' : Mst} {σ : Sst}

set_option maxRecDepth 100000 in
set_option maxHeartbeats 4000000 in
theorem look_skip {x i f g cap : Nat} {nt b : Bool} {c : List Value} {p2 : Pst} (h : Mac w0 w mb sb db s) (hs : Scr lo hi w0 sb 0 σ) (hc : σ.cs[s.pc]? = some c) (hv : σ.vc = .slice (some ⟨g, 0, none⟩) σ.cs.length cap) (hx : c[3]? = some (.int .u8 x)) (hnt : c[2]? = some (.bool nt))
    (ht : Instr.findNow (.int .u8) (.int .u8 x) (tabE 0 deedsL) 0 = some (some (i, .func (.func f) #[] #[]))) (hst : s.steps < 2000) (hpc : s.pc < 2000)
    (hA : ∀ w1 s1, Mac w0 w1 mb sb db s1 → s1.p = ({ s.p with pc := s.pc + 1, steps := s.steps + 1 } : Pst) → Calls Tryz.prog 100 #[.pointer (some ⟨mb, 0, none⟩), .pointer (some ⟨g, s.pc * 23, none⟩)] w1 fun r w' => r = .returned (.bool b) ∧ Goes w0 mb sb db w1 s1 w' p2)
    (hb : b = nt) (hx123 : x ≠ 123) :
    Calls Tryz.prog 63 #[.pointer (some ⟨mb, 0, none⟩)] w fun r w' => r = .returned (.tuple #[]) ∧ Goes w0 mb sb db w s w' p2 := by
  have hsw := hs.keep h.r.kp (fun _ e => by cases e)
  obtain ⟨g', cap', e, hcell⟩ := hsw.cmd hc
  obtain rfl : g' = g := by rw [hv] at e; injection e with e _ _; injection e with e; injection e with e; exact e.symm
  have hlt := (List.getElem?_eq_some_iff.1 hc).1
  have c1 := hsw.c1
  rw [hv] at c1
  have c0 := h.b.at_ 0 _ rfl
  have c13 := h.b.at_ 13 _ rfl
  have hne : ((s.pc : Int) == (σ.cs.length : Int)) = false := by rw [beq_eq_false_iff_ne]; omega
  have HA := hid hA
  have HS := hid hs
  have HC := hid hcell
  clear hA hs hcell e
  go_enter Tryz.func63, Tryz.ntmps63
  go_wp2_with fail
  go_quiet (fail)
  have ha := h.keep (Kp.drewN [] w nq)
  have ga : Gr mb db w s.r (w.drewN nq) s.r := Gr.of_kp (Kp.drewN [] w nq) (fun _ e => by cases e)
  have hca : ∀ j u, c[j]? = some u → (w.drewN nq).cell? ⟨g', s.pc * 23 + j, none⟩ = some u := HC.out
  have c1a : (w.drewN nq).cell? ⟨sb, 0 + 1, none⟩ = some (.slice (some ⟨g', 0, none⟩) σ.cs.length cap) := c1
  clear c0 c1 c13 hsw HC
  obtain ⟨wa, hwa⟩ : ∃ wa, wa = w.drewN nq := ⟨_, rfl⟩
  rw [← hwa] at ha ga hca c1a ⊢
  clear hwa
  have HCA := hid hca
  clear hca
  have c0 := ha.b.at_ 0 _ rfl
  have c13 := ha.b.at_ 13 _ rfl
  have f13 := ha.b.free 13
  go_wp2_with fail
  go_quiet (fail)
  obtain ⟨wb, hwb⟩ : ∃ wb, wb = wa.drewN nq := ⟨_, rfl⟩
  have hb' := ha.keep (Kp.drewN [] wa nq)
  have gb := ga.trans (Gr.of_kp (r := s.r) (Kp.drewN [] wa nq) (fun _ e => by cases e))
  have hcb : ∀ j u, c[j]? = some u → (wa.drewN nq).cell? ⟨g', s.pc * 23 + j, none⟩ = some u := HCA.out
  rw [← hwb] at hb' gb hcb ⊢
  clear hwb c0 c13 f13 c1a HCA ha ga h
  have c13 := hb'.b.at_ 13 _ rfl
  have f13 := hb'.b.free 13
  have HCB := hid hcb
  clear hcb
  obtain ⟨n1, hn1⟩ : ∃ n1 : Nat, n1 = s.pc + 1 := ⟨_, rfl⟩
  have wr := wrap_i64_succ s.pc n1 hn1 (by omega)
  have m1 := hb'.set (s' := { s with pc := n1 }) 13 (.int .i64 (n1 : Int)) (by omega) rfl rfl
  have g1 := gb.trans (Gr.set (mb := mb) (db := db) wb s.r 13 (.int .i64 (n1 : Int)))
  have hc1 : ∀ j u, c[j]? = some u → (wb.setCell ⟨mb, 13, none⟩ (.int .i64 (n1 : Int))).cell? ⟨g', s.pc * 23 + j, none⟩ = some u := ((HS.out.keep m1.r.kp (fun _ e => by cases e)).cmd hc).elim fun g2 q => q.elim fun cap2 q => by
    obtain ⟨e, q⟩ := q
    obtain rfl : g2 = g' := by rw [hv] at e; injection e with e _ _; injection e with e; injection e with e; exact e.symm
    exact q
  have HN1 := hid hn1
  have M1 := hid m1
  have G1 := hid g1
  have HC1 := hid hc1
  clear hn1 m1 g1 hc1 gb hb'
  go_wp2_with fail
  obtain ⟨w1, hw1⟩ : ∃ w1, w1 = wb.setCell ⟨mb, 13, none⟩ (.int .i64 (n1 : Int)) := ⟨_, rfl⟩
  rw [← hw1] at M1 G1 HC1 ⊢
  clear hw1 c13 f13 HCB wr
  have e1 := M1.out.b.at_ 1 _ rfl
  have k3 := HC1.out 3 _ hx
  have hlk : ∀ m, (Instr.lookup 61 (.map (some db)) (.int .u8 x) true).run Tryz.prog (w1.drewN m) = .ok (.tuple #[.func (.func f) #[] #[], .bool true]) (w1.drewN m) := fun m =>
    run_lookB Tryz.underlying61 Tryz.underlying5 (((Kp.drewN [] w1 m).block _ (M1.out.r.bk.hi 1 _ rfl) (by simp)).trans M1.out.r.md) ht
  go_quiet (fail)
  have m2 := M1.out.keep (Kp.drewN [] w1 nq)
  have g2 := G1.out.trans (Gr.of_kp (r := s.r) (Kp.drewN [] w1 nq) (fun _ e => by cases e))
  have h2 : ∀ j u, c[j]? = some u → (w1.drewN nq).cell? ⟨g', s.pc * 23 + j, none⟩ = some u := HC1.out
  obtain ⟨wd, hwd⟩ : ∃ wd, wd = w1.drewN nq := ⟨_, rfl⟩
  rw [← hwd] at m2 g2 h2 ⊢
  clear hwd M1 G1 HC1 e1 k3 hlk
  have c14 := m2.b.at_ 14 _ rfl
  have f14 := m2.b.free 14
  obtain ⟨n2, hn2⟩ : ∃ n2 : Nat, n2 = s.steps + 1 := ⟨_, rfl⟩
  have wr := wrap_i64_succ s.steps n2 hn2 (by omega)
  have q2 : ¬ 2000 < n2 := by omega
  have m3 := m2.set (s' := { s with pc := n1, steps := n2 }) 14 (.int .i64 (n2 : Int)) (by omega) rfl rfl
  have g3 := g2.trans (Gr.set (mb := mb) (db := db) wd s.r 14 (.int .i64 (n2 : Int)))
  have hsc := HS.out.keep m3.r.kp (fun _ e => by cases e)
  have key : ∀ wx, Kp [] w0 wx → ∀ j u, c[j]? = some u → wx.cell? ⟨g', s.pc * 23 + j, none⟩ = some u := fun wx kx => ((HS.out.keep kx (fun _ e => by cases e)).cmd hc).elim fun g2 q => q.elim fun cap2 q => by
    obtain ⟨e, q⟩ := q
    obtain rfl : g2 = g' := by rw [hv] at e; injection e with e _ _; injection e with e; injection e with e; exact e.symm
    exact q
  have KEY := hid key
  have M3 := hid m3
  have G3 := hid g3
  have HN2 := hid hn2
  clear key hsc m2 g2 h2 hn2
  go_wp2_with fail
  obtain ⟨w3, hw3⟩ : ∃ w3, w3 = wd.setCell ⟨mb, 14, none⟩ (.int .i64 (n2 : Int)) := ⟨_, rfl⟩
  rw [← hw3] at M3 G3 ⊢
  clear hw3 c14 f14 m3 g3 wr
  have HAA := hid (HA.out (w3.drew) { s with pc := n1, steps := n2 } (M3.out.keep (Kp.drew [] w3)) (by rw [HN1.out, HN2.out]; rfl))
  have k2 := KEY.out _ M3.out.r.kp 2 _ hnt
  go_cut [66] from 67 (fun v wx => v = .bool false ∧ ∃ s4, s4.p = p2 ∧ Mac w0 wx mb sb db s4 ∧ Gr mb db w s.r wx s4.r)
  case first =>
    go_region_with (go_at_call 100; refine HAA.out.mono ?_; rintro r w4 ⟨rfl, s4, e4, m4, g4⟩; have k2' := KEY.out _ m4.r.kp 2 _ hnt)
    all_goals
      go_wp2_with fail
      go_meet
      case rel => exact ⟨by first | rfl | (rw [hb]; cases nt <;> rfl), s4, e4, m4, G3.out.trans ((Gr.of_kp (r := s.r) (Kp.drew [] w3) (fun _ e => by cases e)).trans g4)⟩
  case rest =>
  obtain ⟨rfl, s4, e4, m4, g4⟩ := hcut
  have k3 := KEY.out _ m4.r.kp 3 _ hx
  have q3 : ((x : Int) == 123) = false := by rw [beq_eq_false_iff_ne]; omega
  go_wp2_with fail
  go_end0
  exact ⟨rfl, s4, e4, m4, g4⟩

theorem addressed_none {g o c : Nat} {A : Option Addr} (h : Mac w0 w mb sb db s) (h0 : w.cell? ⟨g, o, none⟩ = some (.slice A 0 c)) :
    Calls Tryz.prog 100 #[.pointer (some ⟨mb, 0, none⟩), .pointer (some ⟨g, o, none⟩)] w fun r w' => r = .returned (.bool true) ∧ Goes w0 mb sb db w s w' s.p := by
  go_enter Tryz.func100, Tryz.ntmps100
  go_wp2_with fail
  go_ret
  exact ⟨rfl, Goes.refl h⟩

set_option maxHeartbeats 1000000 in
theorem says_num {g o n : Nat} {b : Bool} (h : Mac w0 w mb sb db s) (h0 : w.cell? ⟨g, o, none⟩ = some (.int .i64 0)) (h1 : w.cell? ⟨g, o + 1, none⟩ = some (.int .i64 n)) (hb : ((s.number : Int) == (n : Int)) = b) :
    Calls Tryz.prog 126 #[.pointer (some ⟨mb, 0, none⟩), .pointer (some ⟨g, o, none⟩)] w fun r w' => r = .returned (.bool b) ∧ Goes w0 mb sb db w s w' s.p := by
  have c8 := h.b.at_ 8 _ rfl
  go_enter Tryz.func126, Tryz.ntmps126
  go_wp2_with fail
  go_quiet (fail)
  go_wp2_with fail
  go_ret
  exact ⟨rfl, (Goes.refl h).keep (Kp.drewN _ _ _)⟩

set_option maxHeartbeats 1000000 in
theorem addressed_num {g o c p n : Nat} {b : Bool} (h : Mac w0 w mb sb db s) (h0 : w.cell? ⟨g, o, none⟩ = some (.slice (some ⟨p, 0, none⟩) 1 c)) (q0 : w.cell? ⟨p, 0, none⟩ = some (.int .i64 0)) (q1 : w.cell? ⟨p, 1, none⟩ = some (.int .i64 n)) (hb : ((s.number : Int) == (n : Int)) = b) :
    Calls Tryz.prog 100 #[.pointer (some ⟨mb, 0, none⟩), .pointer (some ⟨g, o, none⟩)] w fun r w' => r = .returned (.bool b) ∧ Goes w0 mb sb db w s w' s.p := by
  have H := hid (says_num h q0 q1 hb)
  go_enter Tryz.func100, Tryz.ntmps100
  go_wp2_with fail
  refine H.out.mono ?_
  rintro r w1 ⟨rfl, g1⟩
  go_wp2_with fail
  go_ret
  exact ⟨rfl, g1⟩
end
end Go.Proofs.YtonnimbcekhbgaaGreatDoor

/- A machine is made: what it holds at first. -/
namespace Go.Proofs.YtonnimbcekhbgaaGreatDoor
open Go.RowKit

section
variable {P : Program} {md : Region.Mode} {ops : Array Oper} {Q : Exit → Act → World → Prop} {S : World → Prop} {z : Nat}
/-- Three may come up. -/
theorem wpAnyT_three {i j k : Nat} {o o' o'' : Oper} {fuel : Nat} {listed : Array Bool} {a : Act} {w : World} (hr : Region.ready md ops listed = [i, j, k]) (ho : ops[i]? = some o) (ho' : ops[j]? = some o') (ho'' : ops[k]? = some o'')
    (h : ∀ K : Act → World → Prop, Shut (∀ a' w', (i = z ∨ S w') → wpAnyT P md ops Q S z fuel (listed.setIfInBounds i true) a' w' → K a' w') → if Region.wanted o (yielded ops a.tmps) = true then Oper.wp P o a w K Q else K (a.put o.dst undef) w)
    (h' : ∀ K : Act → World → Prop, Shut (∀ a' w', (j = z ∨ S w') → wpAnyT P md ops Q S z fuel (listed.setIfInBounds j true) a' w' → K a' w') → if Region.wanted o' (yielded ops a.tmps) = true then Oper.wp P o' a w K Q else K (a.put o'.dst undef) w)
    (h'' : ∀ K : Act → World → Prop, Shut (∀ a' w', (k = z ∨ S w') → wpAnyT P md ops Q S z fuel (listed.setIfInBounds k true) a' w' → K a' w') → if Region.wanted o'' (yielded ops a.tmps) = true then Oper.wp P o'' a w K Q else K (a.put o''.dst undef) w) :
    wpAnyT P md ops Q S z (fuel + 1) listed a w := by
  refine ⟨fun h0 => (by rw [hr] at h0; cases h0), fun q hq => ?_⟩
  rw [hr] at hq
  rcases List.mem_cons.1 hq with e | hq
  · subst e; exact wpOp_step ho (fun K hK => h K (fun a' w' h1 h2 => hK a' w' ⟨h1, h2⟩))
  · rcases List.mem_cons.1 hq with e | hq
    · subst e; exact wpOp_step ho' (fun K hK => h' K (fun a' w' h1 h2 => hK a' w' ⟨h1, h2⟩))
    · have e := List.mem_singleton.1 hq
      subst e
      exact wpOp_step ho'' (fun K hK => h'' K (fun a' w' h1 h2 => hK a' w' ⟨h1, h2⟩))
end

/-- 'make', as one step of a region that draws its order. -/
theorem step_make {P : Program} {ops : Array Oper} {o : Oper} {a : Act} {w : World} {K : Act → World → Prop} {Q : Exit → Act → World → Prop} {E : Prop} (hg : o.guard = none) (t : TypeId) (x y : Operand) (ho : o.op = .makeSlice t x y)
    (n : Nat) (hx : a.eval x = .int .i64 n) (hy : a.eval y = .int .i64 n) (e : TypeId) (i : TypeInfo) (z : Value) (ht : P.underlying t = some (.slice e)) (hi : P.info? e = some i) (hz : i.zero = some z) (hs : i.size = 1) (hb : i.bytes ≤ 100) (hn : n ≤ 100000)
    (h : ∀ w', w'.heap[w.heap.size]? = some (.cells (madeCells z.cells n) e) → Kp [] w w' → K (a.put o.dst (.slice (some ⟨w.heap.size, 0, none⟩) n n)) w') : if Region.wanted o (yielded ops a.tmps) = true then Oper.wp P o a w K Q else E := by
  have hw : Region.wanted o (yielded ops a.tmps) = true := by simp [Region.wanted, hg]
  rw [if_pos hw]
  have hbn : (i.bytes : Int) * (n : Int) ≤ 281474976710656 := by
    have h1 : i.bytes * n ≤ 100 * 100000 := Nat.mul_le_mul hb hn
    have h2 : ((i.bytes * n : Nat) : Int) ≤ ((100 * 100000 : Nat) : Int) := by omega
    rw [Int.natCast_mul] at h2
    omega
  have hr := run_make (P := P) w t e i z ht hi hz .i64 .i64 n n (by omega) (by omega) hbn (by omega)
  simp only [Int.toNat_natCast, hs, Nat.mul_one] at hr
  have hh := h (w.alloc (.cells (madeCells z.cells n) e)) (heap_alloc_new w _) (Kp.alloc _ _ _)
  unfold Oper.wp
  simp [execOp, ho, hx, hy, hr, Result.andThen]
  exact hh

/-- The machine at first. -/
def mst0 (ah : Bool) (fb nf rb nr : Nat) : Mst := ⟨⟨#[]⟩, ah, false, 0, 0, ⟨#[]⟩, ⟨#[]⟩, bwV, 0, 0, false, false, 0, 0, ⟨.slice none 0 0, [], .slice (some ⟨fb, 0, none⟩) nf nf, List.replicate nf (.slice none 0 0), List.replicate nf [], .slice (some ⟨rb, 0, none⟩) nr nr, List.replicate nr false, .slice none 0 0, []⟩⟩

theorem mac_new {w W : World} {db fb rb nf nr sb : Nat} {ah : Bool} (k : Kp [] w W) (fd : W.heap[db]? = some (tabO deedsL)) (ff : W.heap[fb]? = some (.cells (madeCells #[.slice none 0 0] nf) 34)) (fr : W.heap[rb]? = some (.cells (madeCells #[.bool false] nr) 4))
    (ld : w.heap.size ≤ db) (lf : w.heap.size ≤ fb) (lr : w.heap.size ≤ rb) (ndf : db ≠ fb) (ndr : db ≠ rb) (nfr : fb ≠ rb) (hf : nf ≤ 100000) (hr : nr ≤ 100000) :
    Mac w (W.alloc (.cells (macV sb db (mst0 ah fb nf rb nr)).toArray 72)) W.heap.size sb db (mst0 ah fb nf rb nr) := by
  have ka := Kp.alloc [] W (.cells (macV sb db (mst0 ah fb nf rb nr)).toArray 72)
  have dl := lt_blk fd
  have fl := lt_blk ff
  have rl := lt_blk fr
  have ks := k.size
  have fd' := (ka.block db dl (by simp)).trans fd
  have ff' := (ka.block fb fl (by simp)).trans ff
  have fr' := (ka.block rb rl (by simp)).trans fr
  have za : (W.alloc (.cells (macV sb db (mst0 ah fb nf rb nr)).toArray 72)).heap.size = W.heap.size + 1 := by simp
  have hB : ∀ i p, maB W.heap.size db (mst0 ah fb nf rb nr).r i = some p → (i = 0 ∧ p = W.heap.size) ∨ (i = 1 ∧ p = db) ∨ (i = 3 ∧ p = fb) ∨ (i = 4 ∧ p = rb) := fun i p hp => by
    rcases i with _ | _ | _ | _ | _ | _ | i
    · simp [maB] at hp; omega
    · simp [maB] at hp; omega
    · simp [maB, mst0, Value.ownBlock] at hp
    · simp [maB, mst0, Value.ownBlock] at hp; omega
    · simp [maB, mst0, Value.ownBlock] at hp; omega
    · simp [maB, mst0, Value.ownBlock] at hp
    · exfalso
      simp only [maB, mst0] at hp
      rw [List.getElem?_replicate] at hp
      split at hp
      · simp [Value.ownBlock] at hp
      · simp at hp
  refine ⟨Bl.alloc W _ _, ⟨k.trans ka, World.ownsRow_nil _ _ _ _, ⟨by simp [mst0], .inr ⟨fb, nf, _, by simp [mst0], lf, ff', by simp [mst0], by unfold maxLen; omega, by rw [size_madeCells]; omega, by rw [toList_madeCells_one]; simp [mst0]⟩⟩, fun i v hv => ?_, ⟨by simp [mst0], .inr ⟨rb, nr, _, by simp [mst0], lr, fr', by simp [mst0], by unfold maxLen; omega, by rw [size_madeCells]; omega, by rw [toList_madeCells_one]; simp [mst0]⟩⟩, World.ownsRow_nil _ _ _ _, fd', ⟨fun i p hp => ?_, fun i p hp => ?_, fun i j p hi hj => ?_⟩, by simp [mst0]⟩⟩
  · simp only [mst0] at hv ⊢
    rw [List.getElem?_replicate] at hv
    split at hv
    · rename_i hlt
      injection hv with hv
      subst hv
      exact ⟨[], by rw [List.getElem?_replicate, if_pos hlt], World.ownsRow_nil _ _ _ _⟩
    · cases hv
  · have := hB i p hp; omega
  · have := hB i p hp; omega
  · have := hB i p hi; have := hB j p hj; omega
end Go.Proofs.YtonnimbcekhbgaaGreatDoor
