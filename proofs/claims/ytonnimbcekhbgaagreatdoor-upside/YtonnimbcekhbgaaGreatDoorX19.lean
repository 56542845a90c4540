/- What the claim needs of: HB FMToFV FW FNToFX. -/
import Derived.Test.YtonnimbcekhbgaaGreatDoorX18
import Derived.Test.YtonnimbcekhbgaaGreatDoorX14
import Derived.Test.YtonnimbcekhbgaaGreatDoorX07
import Derived.Test.YtonnimbcekhbgaaGreatDoorX12
import Derived.Test.YtonnimbcekhbgaaGreatDoorX08

/- HB. -/
namespace Go.Proofs.YtonnimbcekhbgaaGreatDoor
open Go.RowKit

theorem run_lookB0 {P : Program} {w : World} {t k e : TypeId} {b c : Nat} {es : Array MapEntry} {x : Int} {z : Value} (ht : P.underlying t = some (.map k e)) (hk : P.underlying k = some (.int .u8)) (hz : (zeroValue e).run P w = .ok z w) (hb : w.heap[b]? = some (.map es c)) (hf : Instr.findNow (.int .u8) (.int .u8 x) es.toList 0 = some none) :
    (Instr.lookup t (.map (some b)) (.int .u8 x) true).run P w = .ok (.tuple #[z, .bool false]) w := by
  have hkey : MapKept.IsKey (.int .u8) (.int .u8 x) := by simp [MapKept.IsKey]
  simp [Instr.lookup, run_underlying ht, MapKept.run_getObj_map hb, MapKept.run_checkKey hk hkey, MapKept.run_findKey hk hf, Result.andThen, hz]
theorem zero_deed (w : World) : (zeroValue 84).run Tryz.prog w = .ok .nilFunc w := by simp [go_sem]

section
variable {w0 w w' : World} {mb sb db lo hi : Nat} {s s' : Mst} {σ : Sst}

set_option maxRecDepth 100000 in
set_option maxHeartbeats 4000000 in
theorem look_jump {x i f g cap goal : Nat} {nt b : Bool} {c : List Value} {p2 : Pst} (h : Mac w0 w mb sb db s) (hs : Scr lo hi w0 sb 0 σ) (hc : σ.cs[s.pc]? = some c) (hv : σ.vc = .slice (some ⟨g, 0, none⟩) σ.cs.length cap) (hx : c[3]? = some (.int .u8 x)) (hnt : c[2]? = some (.bool nt))
    (ht : Instr.findNow (.int .u8) (.int .u8 x) (tabE 0 deedsL) 0 = some (some (i, .func (.func f) #[] #[]))) (hst : s.steps < 2000) (hpc : s.pc < 2000)
    (hA : ∀ w1 s1, Mac w0 w1 mb sb db s1 → s1.p = ({ s.p with pc := s.pc + 1, steps := s.steps + 1 } : Pst) → Calls Tryz.prog 100 #[.pointer (some ⟨mb, 0, none⟩), .pointer (some ⟨g, s.pc * 23, none⟩)] w1 fun r w' => r = .returned (.bool b) ∧ Goes w0 mb sb db w1 s1 w' p2)
    (hb : b = nt) (hx123 : x = 123) (h5 : c[5]? = some (.int .i64 goal)) :
    Calls Tryz.prog 63 #[.pointer (some ⟨mb, 0, none⟩)] w fun r w' => r = .returned (.tuple #[]) ∧ Goes w0 mb sb db w s w' (p2.goto goal) := by
  have HX123 := hid hx123
  clear hx123
  have hsw := hs.keep h.r.kp (fun _ e => by cases e)
  obtain ⟨g', cap', e, hcell⟩ := hsw.cmd hc
  obtain rfl : g' = g := by rw [hv] at e; injection e with e _ _; injection e with e; injection e with e; exact e.symm
  have hlt := (List.getElem?_eq_some_iff.1 hc).1
  have c1 := hsw.c1
  rw [hv] at c1
  have c0 := h.b.at_ 0 _ rfl
  have c13 := h.b.at_ 13 _ rfl
  have hne : ((s.pc : Int) == (σ.cs.length : Int)) = false := by rw [beq_eq_false_iff_ne]; omega
  have HA := hid hA
  have HS := hid hs
  have HC := hid hcell
  clear hA hs hcell e
  go_enter Tryz.func63, Tryz.ntmps63
  go_wp2_with fail
  go_quiet (fail)
  have ha := h.keep (Kp.drewN [] w nq)
  have ga : Gr mb db w s.r (w.drewN nq) s.r := Gr.of_kp (Kp.drewN [] w nq) (fun _ e => by cases e)
  have hca : ∀ j u, c[j]? = some u → (w.drewN nq).cell? ⟨g', s.pc * 23 + j, none⟩ = some u := HC.out
  have c1a : (w.drewN nq).cell? ⟨sb, 0 + 1, none⟩ = some (.slice (some ⟨g', 0, none⟩) σ.cs.length cap) := c1
  clear c0 c1 c13 hsw HC
  obtain ⟨wa, hwa⟩ : ∃ wa, wa = w.drewN nq := ⟨_, rfl⟩
  rw [← hwa] at ha ga hca c1a ⊢
  clear hwa
  have HCA := hid hca
  clear hca
  have c0 := ha.b.at_ 0 _ rfl
  have c13 := ha.b.at_ 13 _ rfl
  have f13 := ha.b.free 13
  go_wp2_with fail
  go_quiet (fail)
  obtain ⟨wb, hwb⟩ : ∃ wb, wb = wa.drewN nq := ⟨_, rfl⟩
  have hb' := ha.keep (Kp.drewN [] wa nq)
  have gb := ga.trans (Gr.of_kp (r := s.r) (Kp.drewN [] wa nq) (fun _ e => by cases e))
  have hcb : ∀ j u, c[j]? = some u → (wa.drewN nq).cell? ⟨g', s.pc * 23 + j, none⟩ = some u := HCA.out
  rw [← hwb] at hb' gb hcb ⊢
  clear hwb c0 c13 f13 c1a HCA ha ga h
  have c13 := hb'.b.at_ 13 _ rfl
  have f13 := hb'.b.free 13
  have HCB := hid hcb
  clear hcb
  obtain ⟨n1, hn1⟩ : ∃ n1 : Nat, n1 = s.pc + 1 := ⟨_, rfl⟩
  have wr := wrap_i64_succ s.pc n1 hn1 (by omega)
  have m1 := hb'.set (s' := { s with pc := n1 }) 13 (.int .i64 (n1 : Int)) (by omega) rfl rfl
  have g1 := gb.trans (Gr.set (mb := mb) (db := db) wb s.r 13 (.int .i64 (n1 : Int)))
  have hc1 : ∀ j u, c[j]? = some u → (wb.setCell ⟨mb, 13, none⟩ (.int .i64 (n1 : Int))).cell? ⟨g', s.pc * 23 + j, none⟩ = some u := ((HS.out.keep m1.r.kp (fun _ e => by cases e)).cmd hc).elim fun g2 q => q.elim fun cap2 q => by
    obtain ⟨e, q⟩ := q
    obtain rfl : g2 = g' := by rw [hv] at e; injection e with e _ _; injection e with e; injection e with e; exact e.symm
    exact q
  have HN1 := hid hn1
  have M1 := hid m1
  have G1 := hid g1
  have HC1 := hid hc1
  clear hn1 m1 g1 hc1 gb hb'
  go_wp2_with fail
  obtain ⟨w1, hw1⟩ : ∃ w1, w1 = wb.setCell ⟨mb, 13, none⟩ (.int .i64 (n1 : Int)) := ⟨_, rfl⟩
  rw [← hw1] at M1 G1 HC1 ⊢
  clear hw1 c13 f13 HCB wr
  have e1 := M1.out.b.at_ 1 _ rfl
  have k3 := HC1.out 3 _ hx
  have hlk : ∀ m, (Instr.lookup 61 (.map (some db)) (.int .u8 x) true).run Tryz.prog (w1.drewN m) = .ok (.tuple #[.func (.func f) #[] #[], .bool true]) (w1.drewN m) := fun m =>
    run_lookB Tryz.underlying61 Tryz.underlying5 (((Kp.drewN [] w1 m).block _ (M1.out.r.bk.hi 1 _ rfl) (by simp)).trans M1.out.r.md) ht
  go_quiet (fail)
  have m2 := M1.out.keep (Kp.drewN [] w1 nq)
  have g2 := G1.out.trans (Gr.of_kp (r := s.r) (Kp.drewN [] w1 nq) (fun _ e => by cases e))
  have h2 : ∀ j u, c[j]? = some u → (w1.drewN nq).cell? ⟨g', s.pc * 23 + j, none⟩ = some u := HC1.out
  obtain ⟨wd, hwd⟩ : ∃ wd, wd = w1.drewN nq := ⟨_, rfl⟩
  rw [← hwd] at m2 g2 h2 ⊢
  clear hwd M1 G1 HC1 e1 k3 hlk
  have c14 := m2.b.at_ 14 _ rfl
  have f14 := m2.b.free 14
  obtain ⟨n2, hn2⟩ : ∃ n2 : Nat, n2 = s.steps + 1 := ⟨_, rfl⟩
  have wr := wrap_i64_succ s.steps n2 hn2 (by omega)
  have q2 : ¬ 2000 < n2 := by omega
  have m3 := m2.set (s' := { s with pc := n1, steps := n2 }) 14 (.int .i64 (n2 : Int)) (by omega) rfl rfl
  have g3 := g2.trans (Gr.set (mb := mb) (db := db) wd s.r 14 (.int .i64 (n2 : Int)))
  have hsc := HS.out.keep m3.r.kp (fun _ e => by cases e)
  have key : ∀ wx, Kp [] w0 wx → ∀ j u, c[j]? = some u → wx.cell? ⟨g', s.pc * 23 + j, none⟩ = some u := fun wx kx => ((HS.out.keep kx (fun _ e => by cases e)).cmd hc).elim fun g2 q => q.elim fun cap2 q => by
    obtain ⟨e, q⟩ := q
    obtain rfl : g2 = g' := by rw [hv] at e; injection e with e _ _; injection e with e; injection e with e; exact e.symm
    exact q
  have KEY := hid key
  have M3 := hid m3
  have G3 := hid g3
  have HN2 := hid hn2
  clear key hsc m2 g2 h2 hn2
  go_wp2_with fail
  obtain ⟨w3, hw3⟩ : ∃ w3, w3 = wd.setCell ⟨mb, 14, none⟩ (.int .i64 (n2 : Int)) := ⟨_, rfl⟩
  rw [← hw3] at M3 G3 ⊢
  clear hw3 c14 f14 m3 g3 wr
  have HAA := hid (HA.out (w3.drew) { s with pc := n1, steps := n2 } (M3.out.keep (Kp.drew [] w3)) (by rw [HN1.out, HN2.out]; rfl))
  have k2 := KEY.out _ M3.out.r.kp 2 _ hnt
  go_cut [66] from 67 (fun v wx => v = .bool false ∧ ∃ s4, s4.p = p2 ∧ Mac w0 wx mb sb db s4 ∧ Gr mb db w s.r wx s4.r)
  case first =>
    go_region_with (go_at_call 100; refine HAA.out.mono ?_; rintro r w4 ⟨rfl, s4, e4, m4, g4⟩; have k2' := KEY.out _ m4.r.kp 2 _ hnt)
    all_goals
      go_wp2_with fail
      go_meet
      case rel => exact ⟨by first | rfl | (rw [hb]; cases nt <;> rfl), s4, e4, m4, G3.out.trans ((Gr.of_kp (r := s.r) (Kp.drew [] w3) (fun _ e => by cases e)).trans g4)⟩
  case rest =>
  obtain ⟨rfl, s4, e4, m4, g4⟩ := hcut
  have k3 := KEY.out _ m4.r.kp 3 _ hx
  have k5 := KEY.out _ m4.r.kp 5 _ h5
  have c13 := m4.b.at_ 13 _ rfl
  have f13 := m4.b.free 13
  have q3 : ((x : Int) == 123) = true := by rw [HX123.out]; rfl
  have m5 := m4.set (s' := { s4 with pc := goal }) 13 (.int .i64 goal) (by omega) rfl rfl
  have g5 := g4.trans (Gr.set (mb := mb) (db := db) _ s4.r 13 (.int .i64 (goal : Int)))
  have G5 := hid (And.intro m5 g5)
  clear m5 g5
  go_wp2_with fail
  go_end0
  exact ⟨rfl, { s4 with pc := goal }, by show s4.p.goto goal = _; rw [e4], G5.out.1, G5.out.2⟩

set_option maxRecDepth 100000 in
set_option maxHeartbeats 4000000 in
theorem look_place {x g cap : Nat} {c : List Value} (h : Mac w0 w mb sb db s) (hs : Scr lo hi w0 sb 0 σ) (hc : σ.cs[s.pc]? = some c) (hv : σ.vc = .slice (some ⟨g, 0, none⟩) σ.cs.length cap) (hx : c[3]? = some (.int .u8 x))
    (ht : Instr.findNow (.int .u8) (.int .u8 x) (tabE 0 deedsL) 0 = some none) (hpc : s.pc < 2000) :
    Calls Tryz.prog 63 #[.pointer (some ⟨mb, 0, none⟩)] w fun r w' => r = .returned (.tuple #[]) ∧ Goes w0 mb sb db w s w' (s.p.goto (s.pc + 1)) := by
  have hsw := hs.keep h.r.kp (fun _ e => by cases e)
  obtain ⟨g', cap', e, hcell⟩ := hsw.cmd hc
  obtain rfl : g' = g := by rw [hv] at e; injection e with e _ _; injection e with e; injection e with e; exact e.symm
  have hlt := (List.getElem?_eq_some_iff.1 hc).1
  have c1 := hsw.c1
  rw [hv] at c1
  have c0 := h.b.at_ 0 _ rfl
  have c13 := h.b.at_ 13 _ rfl
  have hne : ((s.pc : Int) == (σ.cs.length : Int)) = false := by rw [beq_eq_false_iff_ne]; omega
  have HS := hid hs
  have HC := hid hcell
  clear hs hcell e
  go_enter Tryz.func63, Tryz.ntmps63
  go_wp2_with fail
  go_quiet (fail)
  have ha := h.keep (Kp.drewN [] w nq)
  have ga : Gr mb db w s.r (w.drewN nq) s.r := Gr.of_kp (Kp.drewN [] w nq) (fun _ e => by cases e)
  have hca : ∀ j u, c[j]? = some u → (w.drewN nq).cell? ⟨g', s.pc * 23 + j, none⟩ = some u := HC.out
  have c1a : (w.drewN nq).cell? ⟨sb, 0 + 1, none⟩ = some (.slice (some ⟨g', 0, none⟩) σ.cs.length cap) := c1
  clear c0 c1 c13 hsw HC
  obtain ⟨wa, hwa⟩ : ∃ wa, wa = w.drewN nq := ⟨_, rfl⟩
  rw [← hwa] at ha ga hca c1a ⊢
  clear hwa
  have HCA := hid hca
  clear hca
  have c0 := ha.b.at_ 0 _ rfl
  have c13 := ha.b.at_ 13 _ rfl
  have f13 := ha.b.free 13
  go_wp2_with fail
  go_quiet (fail)
  obtain ⟨wb, hwb⟩ : ∃ wb, wb = wa.drewN nq := ⟨_, rfl⟩
  have hb' := ha.keep (Kp.drewN [] wa nq)
  have gb := ga.trans (Gr.of_kp (r := s.r) (Kp.drewN [] wa nq) (fun _ e => by cases e))
  have hcb : ∀ j u, c[j]? = some u → (wa.drewN nq).cell? ⟨g', s.pc * 23 + j, none⟩ = some u := HCA.out
  rw [← hwb] at hb' gb hcb ⊢
  clear hwb c0 c13 f13 c1a HCA ha ga h
  have c13 := hb'.b.at_ 13 _ rfl
  have f13 := hb'.b.free 13
  have HCB := hid hcb
  clear hcb
  obtain ⟨n1, hn1⟩ : ∃ n1 : Nat, n1 = s.pc + 1 := ⟨_, rfl⟩
  have wr := wrap_i64_succ s.pc n1 hn1 (by omega)
  have m1 := hb'.set (s' := { s with pc := n1 }) 13 (.int .i64 (n1 : Int)) (by omega) rfl rfl
  have g1 := gb.trans (Gr.set (mb := mb) (db := db) wb s.r 13 (.int .i64 (n1 : Int)))
  have hc1 : ∀ j u, c[j]? = some u → (wb.setCell ⟨mb, 13, none⟩ (.int .i64 (n1 : Int))).cell? ⟨g', s.pc * 23 + j, none⟩ = some u := ((HS.out.keep m1.r.kp (fun _ e => by cases e)).cmd hc).elim fun g2 q => q.elim fun cap2 q => by
    obtain ⟨e, q⟩ := q
    obtain rfl : g2 = g' := by rw [hv] at e; injection e with e _ _; injection e with e; injection e with e; exact e.symm
    exact q
  have HN1 := hid hn1
  have M1 := hid m1
  have G1 := hid g1
  have HC1 := hid hc1
  clear hn1 m1 g1 hc1 gb hb'
  go_wp2_with fail
  obtain ⟨w1, hw1⟩ : ∃ w1, w1 = wb.setCell ⟨mb, 13, none⟩ (.int .i64 (n1 : Int)) := ⟨_, rfl⟩
  rw [← hw1] at M1 G1 HC1 ⊢
  clear hw1 c13 f13 HCB wr
  have e1 := M1.out.b.at_ 1 _ rfl
  have k3 := HC1.out 3 _ hx
  have hlk : ∀ m, (Instr.lookup 61 (.map (some db)) (.int .u8 x) true).run Tryz.prog (w1.drewN m) = .ok (.tuple #[.nilFunc, .bool false]) (w1.drewN m) := fun m =>
    run_lookB0 Tryz.underlying61 Tryz.underlying5 (zero_deed _) (((Kp.drewN [] w1 m).block _ (M1.out.r.bk.hi 1 _ rfl) (by simp)).trans M1.out.r.md) ht
  go_quiet (fail)
  have m2 := M1.out.keep (Kp.drewN [] w1 nq)
  have g2 := G1.out.trans (Gr.of_kp (r := s.r) (Kp.drewN [] w1 nq) (fun _ e => by cases e))
  have G2 : Hid (Goes w0 mb sb db w s (w1.drewN nq) (s.p.goto (s.pc + 1))) := hid ⟨{ s with pc := n1 }, by rw [HN1.out]; rfl, m2, g2⟩
  go_wp2_with fail
  refine bodyPost_ret (results_none rfl _ _ _) rfl ?_
  exact ⟨rfl, G2.out⟩

/-- What an address says. -/
def Pst.sayA (p : Pst) : Adr → Bool
  | .num n => p.number == n
  | _ => p.none
def Adr.easy : Adr → Prop
  | .pat _ _ => False
  | _ => True
/-- A command with one address: a number, or the last line. -/
structure AtOne (σ : Sst) (c : List Value) (x : Nat) (nt : Bool) (A : Adr) : Prop where
  c3 : c[3]? = some (.int .u8 x)
  c2 : c[2]? = some (.bool nt)
  ez : A.easy
  c0 : ∃ p ca cells, ∃ va : List Value, c[0]? = some (.slice (some ⟨p, 0, none⟩) 1 ca) ∧ (p, Obj.cells cells 120 (0, 0)) ∈ σ.fs ∧ AdrV σ.fs A va ∧ ∀ (j : Nat) (u : Value), va[j]? = some u → cells[j]? = some u
theorem AtOne.of {c : List Value} {x : Nat} {nt : Bool} {A : Adr} {v : Value} (h3 : c[3]? = some (.int .u8 x)) (h2 : c[2]? = some (.bool nt)) (h0 : c[0]? = some v) (ez : A.easy) (hv : AdrsV σ.fs v [A]) : AtOne σ c x nt A := by
  refine ⟨h3, h2, ez, ?_⟩
  rcases hv with ⟨q, _⟩ | ⟨p, ca, cells, rfl, hm, hc⟩
  · cases q
  · obtain ⟨va, h1, hc⟩ := hc 0 A rfl
    exact ⟨p, ca, cells, va, h0, hm, h1, fun j u hu => by have := hc j u hu; rwa [Nat.mul_zero, Nat.zero_add] at this⟩

theorem look_one {p : Pst} {c : List Value} {x : Nat} {nt : Bool} {A : Adr} (hs : Scr lo hi w0 sb 0 σ) (hc : σ.cs[p.pc]? = some c) (hA : AtOne σ c x nt A) : ∃ g cap, σ.vc = .slice (some ⟨g, 0, none⟩) σ.cs.length cap ∧ (∀ wx, Kp [] w0 wx → ∀ j u, c[j]? = some u → wx.cell? ⟨g, p.pc * 23 + j, none⟩ = some u) ∧
    ∀ w1 s1, Mac w0 w1 mb sb db s1 → s1.p = p.on → Calls Tryz.prog 100 #[.pointer (some ⟨mb, 0, none⟩), .pointer (some ⟨g, p.pc * 23, none⟩)] w1 fun r w' => r = .returned (.bool (p.sayA A)) ∧ Goes w0 mb sb db w1 s1 w' p.on := by
  obtain ⟨ap, ca, cells, va, h0, hm, hva, hcl⟩ := hA.c0
  obtain ⟨g, cap, hv, _⟩ := hs.cmd hc
  have key : ∀ wx, Kp [] w0 wx → ∀ j u, c[j]? = some u → wx.cell? ⟨g, p.pc * 23 + j, none⟩ = some u := fun wx kx => by
    obtain ⟨g', cap', hv', hcell⟩ := (hs.keep kx (fun _ e => by cases e)).cmd hc
    obtain rfl : g' = g := by rw [hv] at hv'; injection hv' with e _ _; injection e with e; injection e with e; exact e.symm
    exact hcell
  refine ⟨g, cap, hv, key, fun w1 s1 m1 e1 => ?_⟩
  have hh := ((hs.keep m1.r.kp (fun _ e => by cases e)).fx _ hm).1
  have k0 := key _ m1.r.kp 0 _ h0
  have ez := hA.ez
  rw [← e1]
  cases A with
  | num n =>
    obtain rfl : va = adrV 0 n := hva
    have hnn : s1.number = p.number := congrArg Pst.number e1
    exact addressed_num m1 k0 (cells_at hh (hcl 0 _ rfl)) (cells_at hh (hcl 1 _ rfl)) (by rw [hnn, Bool.eq_iff_iff]; show _ ↔ (p.number == n) = true; simp; omega)
  | last =>
    obtain rfl : va = adrV 1 0 := hva
    exact addressed_last m1 k0 (cells_at hh (hcl 0 _ rfl)) (by rw [e1]; rfl)
  | pat Q txt => exact ez.elim

theorem look_one_do {p p3 : Pst} {c : List Value} {x i f : Nat} {nt : Bool} {A : Adr} (hs : Scr lo hi w0 sb 0 σ) (hc : σ.cs[p.pc]? = some c) (hA : AtOne σ c x nt A) (hst : p.steps < 2000) (hpc : p.pc < 2000) (hen : Enters f)
    (ht : Instr.findNow (.int .u8) (.int .u8 x) (tabE 0 deedsL) 0 = some (some (i, .func (.func f) #[] #[]))) (hb : p.sayA A = !nt)
    (hD : ∀ w2 s2 g, Mac w0 w2 mb sb db s2 → s2.p = p.on → (∀ j u, c[j]? = some u → w2.cell? ⟨g, p.pc * 23 + j, none⟩ = some u) → Calls Tryz.prog f #[.pointer (some ⟨mb, 0, none⟩), .pointer (some ⟨g, p.pc * 23, none⟩)] w2 fun r w' => r = .returned (.tuple #[]) ∧ Goes w0 mb sb db w2 s2 w' p3) : Look w0 mb sb db p p3 := fun w s hM hp => by
  have e1 : s.pc = p.pc := congrArg Pst.pc hp
  have e2 : s.steps = p.steps := congrArg Pst.steps hp
  obtain ⟨g, cap, hv, key, H⟩ := look_one (mb := mb) (db := db) hs hc hA
  refine look_do (b := p.sayA A) (p2 := p.on) hM hs (by rw [e1]; exact hc) hv hA.c3 hA.c2 ht (by omega) (by omega) hen (fun w1 s1 m1 q1' => ?_) hb (fun w2 s2 m2 q2 => by rw [e1]; exact hD w2 s2 g m2 q2 (key w2 m2.r.kp))
  rw [e1]
  exact H w1 s1 m1 (by rw [q1', hp, e1, e2]; rfl)
theorem look_one_skip {p : Pst} {c : List Value} {x i f : Nat} {nt : Bool} {A : Adr} (hs : Scr lo hi w0 sb 0 σ) (hc : σ.cs[p.pc]? = some c) (hA : AtOne σ c x nt A) (hst : p.steps < 2000) (hpc : p.pc < 2000)
    (ht : Instr.findNow (.int .u8) (.int .u8 x) (tabE 0 deedsL) 0 = some (some (i, .func (.func f) #[] #[]))) (hb : p.sayA A = nt) (hx : x ≠ 123) : Look w0 mb sb db p p.on := fun w s hM hp => by
  have e1 : s.pc = p.pc := congrArg Pst.pc hp
  have e2 : s.steps = p.steps := congrArg Pst.steps hp
  obtain ⟨g, cap, hv, key, H⟩ := look_one (mb := mb) (db := db) hs hc hA
  refine look_skip (b := p.sayA A) (p2 := p.on) hM hs (by rw [e1]; exact hc) hv hA.c3 hA.c2 ht (by omega) (by omega) (fun w1 s1 m1 q1' => ?_) hb hx
  rw [e1]
  exact H w1 s1 m1 (by rw [q1', hp, e1, e2]; rfl)
theorem look_one_jump {p : Pst} {c : List Value} {i f goal : Nat} {nt : Bool} {A : Adr} (hs : Scr lo hi w0 sb 0 σ) (hc : σ.cs[p.pc]? = some c) (hA : AtOne σ c 123 nt A) (hst : p.steps < 2000) (hpc : p.pc < 2000)
    (ht : Instr.findNow (.int .u8) (.int .u8 ((123 : Nat) : Int)) (tabE 0 deedsL) 0 = some (some (i, .func (.func f) #[] #[]))) (hb : p.sayA A = nt) (h5 : c[5]? = some (.int .i64 goal)) : Look w0 mb sb db p (p.on.goto goal) := fun w s hM hp => by
  have e1 : s.pc = p.pc := congrArg Pst.pc hp
  have e2 : s.steps = p.steps := congrArg Pst.steps hp
  obtain ⟨g, cap, hv, key, H⟩ := look_one (mb := mb) (db := db) hs hc hA
  refine look_jump (b := p.sayA A) (p2 := p.on) hM hs (by rw [e1]; exact hc) hv hA.c3 hA.c2 ht (by omega) (by omega) (fun w1 s1 m1 q1' => ?_) hb rfl h5
  rw [e1]
  exact H w1 s1 m1 (by rw [q1', hp, e1, e2]; rfl)
theorem look_by {p : Pst} {c : List Value} {x : Nat} (hs : Scr lo hi w0 sb 0 σ) (hc : σ.cs[p.pc]? = some c) (hx : c[3]? = some (.int .u8 x)) (hpc : p.pc < 2000) (ht : Instr.findNow (.int .u8) (.int .u8 x) (tabE 0 deedsL) 0 = some none) : Look w0 mb sb db p (p.goto (p.pc + 1)) := fun w s hM hp => by
  have e1 : s.pc = p.pc := congrArg Pst.pc hp
  obtain ⟨g, cap, hv, _⟩ := hs.cmd hc
  have := look_place hM hs (by rw [e1]; exact hc) hv hx ht (by omega)
  rw [e1, hp] at this
  exact this
end
end Go.Proofs.YtonnimbcekhbgaaGreatDoor

/- FMToFV. -/
namespace Go.Proofs.YtonnimbcekhbgaaGreatDoor
open Go.RowKit

section
variable {w0 w w' : World} {mb sb db lo hi : Nat} {s s' : Mst} {σ : Sst}

end
end Go.Proofs.YtonnimbcekhbgaaGreatDoor

/- The script's reader: parts between slashes. -/
namespace Go.Proofs.YtonnimbcekhbgaaGreatDoor
open Go.RowKit

section
variable {w w' : World} {b k : Nat} {src : ByteArray}

set_option maxHeartbeats 400000 in
theorem stay_v (hr : Cur w b src k) (hk : k < src.size) (h10 : saw src k 10 = false) :
    Calls Tryz.prog 131 #[.pointer (some ⟨b, 0, none⟩)] w fun e w' => e = .returned (.tuple #[]) ∧ Cur w' b src k ∧ Mv b w w' := by
  have he : ((k : Int) == (src.size : Int)) = false := by simp; omega
  have H := hid h10
  clear h10
  go_enter Tryz.func131, Tryz.ntmps131
  go_wp2_with fail
  refine (ended_v hr he).mono ?_
  rintro e w1 ⟨rfl, h1, m1⟩
  go_wp2_with fail
  refine (sees_v 10 h1 H.out).mono ?_
  rintro e w2 ⟨rfl, h2, m2⟩
  go_wp2_with fail
  go_end0
  exact ⟨rfl, h2, m1.trans m2⟩

set_option maxHeartbeats 400000 in
theorem shut_v (hr : Cur w b src k) (hk : k < src.size) (h10 : saw src k 10 = false) {v : Bool} (h : saw src k 47 = v) :
    Calls Tryz.prog 130 #[.pointer (some ⟨b, 0, none⟩)] w fun e w' => e = .returned (.bool v) ∧ Cur w' b src (if v then k + 1 else k) ∧ Mv b w w' := by
  have H := hid h
  clear h
  go_enter Tryz.func130, Tryz.ntmps130
  go_wp2_with fail
  refine (stay_v hr hk h10).mono ?_
  rintro e w1 ⟨rfl, h1, m1⟩
  have T := hid (take_v 47 h1 H.out)
  cases v
  all_goals
    go_wp2_with fail
    refine T.out.mono ?_
    rintro e w2 ⟨rfl, h2, m2⟩
    go_wp2_with fail
    go_ret
    exact ⟨rfl, h2, m1.trans m2⟩

set_option maxHeartbeats 1000000 in
theorem part_v {x : UInt8} (esc : ByteArray) (hr : Cur w b src k) (hk : k < src.size) (hx : src[k] = x) (h : saw src k 92 = false) :
    Calls Tryz.prog 105 #[.pointer (some ⟨b, 0, none⟩), .string esc] w fun e w' => e = .returned (.int .u8 (x.toNat : Nat)) ∧ Cur w' b src (k + 1) ∧ Mv b w w' := by
  have H := hid h
  have hsm := hr.small
  have HX := hid hx
  clear h hx
  go_enter Tryz.func105, Tryz.ntmps105
  go_wp2_with fail
  refine (sees_v 92 hr H.out).mono ?_
  rintro e w1 ⟨rfl, h1, m1⟩
  have c1 := h1.c1
  have f1 := h1.free 1
  have s2 := h1.step hk
  have m2 := m1.trans (Mv.step b w1 (.int .i64 ((k : Int) + 1)))
  obtain ⟨v1, hv1⟩ : ∃ v1 : Int, v1 = (k : Int) + 1 := ⟨_, rfl⟩
  rw [← hv1] at s2 m2
  obtain ⟨w2, hw2⟩ : ∃ w2, w2 = w1.setCell ⟨b, 1, none⟩ (.int .i64 v1) := ⟨_, rfl⟩
  rw [← hw2] at s2 m2
  have d0 := s2.c0
  have d1 := s2.c1
  have e1 : ((k + 1 : Nat) : Int) - 1 = (k : Int) := by omega
  have wk := wrap_i64_nat k (by omega)
  have c5 : (⟨src.data⟩ : ByteArray)[k] = x := HX.out
  obtain ⟨k1, hk1⟩ : ∃ k1, k1 = k + 1 := ⟨_, rfl⟩
  rw [← hk1] at d1 e1
  clear hk1
  go_upto_region 3 with fail
  rw [← hv1, ← hw2]
  clear hw2 c1 f1
  go_quiet (fail)
  go_wp2_with fail
  go_ret
  exact ⟨rfl, s2.drewN _, m2.trans (Mv.drewN _ _ _)⟩
end
end Go.Proofs.YtonnimbcekhbgaaGreatDoor

/- FW. -/
namespace Go.Proofs.YtonnimbcekhbgaaGreatDoor
open Go.RowKit

/-- A table of 256 cells. -/
structure Arr (w : World) (t : Nat) (f : Nat → Value) : Prop where
  lt : t < w.heap.size
  at_ : ∀ j, j < 256 → w.cell? ⟨t, j, none⟩ = some (f j)
  free : ∀ j, w.frozen? ⟨t, j, none⟩ = false
theorem Arr.set {w : World} {t k : Nat} {v : Value} {f : Nat → Value} (h : Arr w t f) (hk : k < 256) : Arr (w.setCell ⟨t, k, none⟩ v) t (fun j => if j = k then v else f j) := by
  refine ⟨by simpa using h.lt, fun j hj => ?_, fun j => by simpa using h.free j⟩
  by_cases e : j = k
  · subst e
    rw [if_pos rfl]
    exact cell_same _ (h.at_ j hj)
  · rw [if_neg e]
    exact (cell_other _ (fun q => by injection q with _ q _; exact e q.symm)).trans (h.at_ j hj)
theorem Arr.keep {w w' : World} {t : Nat} {f : Nat → Value} {S : List Nat} (h : Arr w t f) (k : Kp S w w') (hn : t ∉ S) : Arr w' t f :=
  ⟨Nat.lt_of_lt_of_le h.lt k.size, fun j hj => (k.cell (p := ⟨t, j, none⟩) h.lt hn).trans (h.at_ j hj), fun j => (k.frozen (p := ⟨t, j, none⟩) h.lt hn).trans (h.free j)⟩
theorem Arr.mono {w : World} {t : Nat} {f g : Nat → Value} (h : Arr w t f) (e : ∀ j, j < 256 → f j = g j) : Arr w t g := ⟨h.lt, fun j hj => by rw [h.at_ j hj, e j hj], h.free⟩
theorem Arr.of (w : World) (u : Value) (ty : TypeId) : Arr (w.alloc (.cells (List.replicate 256 u).toArray ty)) w.heap.size (fun _ => u) := by
  have B := Bl.alloc w (List.replicate 256 u) ty
  exact ⟨B.lt, fun j hj => B.at_ j _ (by rw [List.getElem?_replicate, if_pos hj]), B.free⟩
/-- What came behind touched but these, and what is new. -/
theorem Kp.past {S T : List Nat} {w a c : World} (h : Kp S w a) (k : Kp T a c) (hT : ∀ x ∈ T, x ∈ S ∨ w.heap.size ≤ x) : Kp S w c :=
  ⟨k.os.trans h.os, k.tape.trans h.tape, k.output.trans h.output, Nat.le_trans h.size k.size, fun i hi hn => (k.block i (Nat.lt_of_lt_of_le hi h.size) (fun e => by
    rcases hT i e with q | q
    · exact hn q
    · omega)).trans (h.block i hi hn)⟩
theorem Mv.past {T : List Nat} {b : Nat} {w a c : World} (h : Mv b w a) (k : Kp T a c) (hb : b < w.heap.size) (hT : ∀ x ∈ T, w.heap.size ≤ x) : Mv b w c :=
  ⟨h.kp.past k (fun x hx => .inr (hT x hx)), fun j hj => (k.cell (p := ⟨b, j, none⟩) (Nat.lt_of_lt_of_le hb h.kp.size) (fun e => by have := hT b e; omega)).trans (h.same j hj)⟩

section
variable {w w' : World} {b k : Nat} {src : ByteArray}

end
end Go.Proofs.YtonnimbcekhbgaaGreatDoor

/- FNToFX. -/
namespace Go.Proofs.YtonnimbcekhbgaaGreatDoor
open Go.RowKit

/-- What a command that was read makes of what was read. -/
def CmdT (L : List Adr) (nt : Bool) (x : Nat) (R : Sst → List Value → Sst → List Value → Prop) (σ σ' : Sst) : Prop :=
  ∃ A c fs σ1 cv v, AdrsV fs (.slice A L.length c) L ∧ (∀ f ∈ σ.fs, f ∈ fs) ∧
    R { σ with ranges := if L.length = 2 then σ.ranges + 1 else σ.ranges, fs := fs } (cmdV (.slice A L.length c) (if L.length = 2 then σ.ranges else 0) nt x) σ1 cv ∧ σ' = { σ1 with vc := v, cs := σ1.cs ++ [cv] }

/-- What is asked of an operand. -/
structure OpR (R : Sst → List Value → Sst → List Value → Prop) : Prop where
  c3 : ∀ σ cv σ' cv', R σ cv σ' cv' → cv'[3]? = cv[3]?
  cs : ∀ σ cv σ' cv', R σ cv σ' cv' → σ'.cs.length = σ.cs.length
  ranges : ∀ σ cv σ' cv', R σ cv σ' cv' → σ'.ranges = σ.ranges
  small : ∀ σ cv σ' cv', R σ cv σ' cv' → ∀ N, Small σ N → Small σ' (N + 1)

theorem opR_nothing : OpR (fun σ cv σ' cv' => σ' = σ ∧ cv' = cv) := ⟨fun _ _ _ _ h => by rw [h.2], fun _ _ _ _ h => by rw [h.1], fun _ _ _ _ h => by rw [h.1], fun _ _ _ _ h N hN => by rw [h.1]; exact hN.mono (by omega)⟩
theorem cmdT_grows {L : List Adr} {nt : Bool} {x : Nat} {R : Sst → List Value → Sst → List Value → Prop} (hR : OpR R) (σ σ' : Sst) (h : CmdT L nt x R σ σ') : σ'.cs.length = σ.cs.length + 1 ∧ σ'.ranges ≤ σ.ranges + 1 ∧ ∀ N, Small σ N → Small σ' (N + 1) := by
  obtain ⟨A, c, fs, σ1, cv, v, _, _, hr, rfl⟩ := h
  have h1 := hR.cs _ _ _ _ hr
  have h2 := hR.ranges _ _ _ _ hr
  refine ⟨?_, ?_, fun N hN => ?_⟩
  · show (σ1.cs ++ [cv]).length = _
    rw [List.length_append, h1]; rfl
  · show σ1.ranges ≤ _
    rw [h2]
    show (if L.length = 2 then σ.ranges + 1 else σ.ranges) ≤ _
    split <;> omega
  · have := hR.small _ _ _ _ hr N ⟨hN.ns, hN.bs, hN.gs⟩
    exact ⟨this.ns, this.bs, this.gs⟩

/-- A command at a place of a script, from the byte on. -/
structure CmdAt (src : ByteArray) (k e k5 f x : Nat) (L : List Adr) : Prop where
  adrs : ∃ k1 k3, AdrsOk src k k1 L ∧ saw src (blk src k1) 33 = false ∧ k3 = blk src k1 ∧ (∃ h : k3 < src.size, (src[k3]).toNat = x) ∧ k3 + 1 = e
  op : ∃ i, Instr.findNow (.int .u8) (.int .u8 x) (tabE 0 opsL) 0 = some (some (i, .func (.func f) #[] #[]))
  bare : x ≠ 125 ∧ x ≠ 58 ∧ x ≠ 123

theorem CmdAt.ok {w0 : World} {b : Nat} {src : ByteArray} {k e e' k5 f x : Nat} {L : List Adr} {R : Sst → List Value → Sst → List Value → Prop} (h : CmdAt src k e k5 f x L) (ho : OpOk w0 f b src e e' R) (hR : OpR R) (hce : Enters f) (hE : mayEnd src (blk src e') = true) (h5 : k5 = blk src e') : CmdOk w0 b src k k5 (CmdT L false x R) := by
  intro w σ hs hcs hrg hsm
  obtain ⟨k1, k3, hA, h33, h3, ⟨hk, hx⟩, he⟩ := h.adrs
  obtain ⟨i, hi⟩ := h.op
  obtain ⟨b1, b2, b3⟩ := h.bare
  refine (command_v hs hA (.inl ⟨rfl, h33, h3⟩) hk hx hi (fun q => by omega) (by rw [he]; exact ho) hce (fun _ _ _ _ q => ⟨hR.c3 _ _ _ _ q, hR.cs _ _ _ _ q⟩) (.inr ⟨b3, hE, h5⟩) hcs hrg hsm).mono ?_
  rintro r w' ⟨hr, A, c, fs, σ', cv', v', q1, q2, q3, q4⟩
  exact ⟨hr, _, ⟨A, c, fs, σ', cv', v', q1, q2, q3, rfl⟩, q4⟩

theorem enters_nothing : Enters 76 := by intro p q w; simp [go_sem]
end Go.Proofs.YtonnimbcekhbgaaGreatDoor

/- The script's reader: y. -/
namespace Go.Proofs.YtonnimbcekhbgaaGreatDoor
open Go.RowKit

set_option maxHeartbeats 400000 in
theorem expect_v {w : World} {b k : Nat} {src : ByteArray} (x : Int) (hr : Cur w b src k) (h : saw src k x = true) :
    Calls Tryz.prog 110 #[.pointer (some ⟨b, 0, none⟩), .int .u8 x] w fun e w' => e = .returned (.tuple #[]) ∧ Cur w' b src (k + 1) ∧ Mv b w w' := by
  have H := hid (take_v x hr h)
  clear h
  go_enter Tryz.func110, Tryz.ntmps110
  go_wp2_with fail
  refine H.out.mono ?_
  rintro e w1 ⟨rfl, h1, m1⟩
  go_wp2_with fail
  go_end0
  exact ⟨rfl, h1, m1⟩

end Go.Proofs.YtonnimbcekhbgaaGreatDoor
