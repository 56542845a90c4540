/- The machine: ranges. -/
import Derived.Test.YtonnimbcekhbgaaGreatDoorEXToFC
import Derived.Test.YtonnimbcekhbgaaGreatDoorERToES
namespace Go.Proofs.YtonnimbcekhbgaaGreatDoor
open Go.RowKit

section
variable {w0 w w' w2 : World} {mb sb db lo hi : Nat} {s s' : Mst} {σ : Sst}

theorem maB_rg (mb db : Nat) (r : Mrw) (rg : List Bool) : maB mb db { r with rg := rg } = maB mb db r := by
  funext j
  rcases j with _ | _ | _ | _ | _ | _ | j <;> rfl

/-- Whether a range goes on is stored. -/
theorem Mac.setRg {i g c : Nat} (h : Mac w0 w mb sb db s) (hg : s.r.vr = .slice (some ⟨g, 0, none⟩) s.r.rg.length c) (b : Bool) :
    Mac w0 (w.setCell ⟨g, i, none⟩ (.bool b)) mb sb db { s with r := { s.r with rg := s.r.rg.set i b } } ∧ Gr mb db w s.r (w.setCell ⟨g, i, none⟩ (.bool b)) { s.r with rg := s.r.rg.set i b } := by
  have m4 : maB mb db s.r 4 = some g := by show s.r.vr.ownBlock = _; rw [hg]; rfl
  have gm : g ≠ mb := fun e => by have := h.r.bk.ne 4 0 g m4 (by rw [e]; rfl); omega
  have ks : Kp [g] w (w.setCell ⟨g, i, none⟩ (.bool b)) := Kp.setCell _ _ (by simp)
  have hh : ∀ j p, j ≠ 4 → maB mb db s.r j = some p → (w.setCell ⟨g, i, none⟩ (.bool b)).heap[p]? = w.heap[p]? := fun j p h4 hp => ks.block p (h.r.bk.hi j p hp) (fun e => h4 (h.r.bk.ne j 4 p hp (by simp at e; rw [e]; exact m4)))
  have lo0 := h.r.kp.size
  refine ⟨⟨h.b.keep ks (by simpa using Ne.symm gm), ⟨⟨ks.os.trans h.r.kp.os, ks.tape.trans h.r.kp.tape, ks.output.trans h.r.kp.output, Nat.le_trans lo0 ks.size, fun j hj _ => (ks.block j (Nat.lt_of_lt_of_le hj lo0) (fun e => ?_)).trans (h.r.kp.block j hj (by simp))⟩, own_block h.r.o2 (fun p hp => hh 2 p (by omega) hp), own_block h.r.o3 (fun p hp => hh 3 p (by omega) hp), fun j u hu => ?_, ?_, own_block h.r.o5 (fun p hp => hh 5 p (by omega) hp), (hh 1 _ (by omega) rfl).trans h.r.md, by rw [maB_rg]; exact h.r.bk.grow ks.size, h.r.fll⟩⟩, ?_⟩
  · have := h.r.bk.lo 4 g m4
    simp at e
    omega
  · obtain ⟨bs, h1, h2⟩ := h.r.ofl j u hu
    exact ⟨bs, h1, own_block h2 (fun p hp => hh (j + 6) p (by omega) (show (s.r.fl[j]?).bind Value.ownBlock = some p by rw [hu]; exact hp))⟩
  · have o := h.r.o4
    show World.ownsRow _ _ _ 1 s.r.vr (s.r.rg.set i b).length ((s.r.rg.set i b).map .bool)
    rw [List.length_set, List.map_set, hg]
    rw [hg] at o
    exact (o.stored i (.bool b)).1
  · refine ⟨ks.size, fun j p hp => ?_, fun p hp hn => ks.block p hp (fun e => hn 4 (by simp at e; rw [e]; exact m4))⟩
    rw [maB_rg] at hp
    exact .inl ⟨j, hp⟩

theorem Mac.rgAt {i : Nat} {b : Bool} (h : Mac w0 w mb sb db s) (hb : s.r.rg[i]? = some b) : ∃ g c, s.r.vr = .slice (some ⟨g, 0, none⟩) s.r.rg.length c ∧ w.cell? ⟨g, i, none⟩ = some (.bool b) ∧ (∀ j, w.frozen? ⟨g, j, none⟩ = false) := by
  have hi := (List.getElem?_eq_some_iff.1 hb).1
  rcases h.r.o4.2 with ⟨_, q⟩ | ⟨g, cap, cur, q1, q2, q3, q4⟩
  · omega
  · have o := h.r.o4
    rw [q1] at o
    refine ⟨g, cap, q1, ?_, fun j => ?_⟩
    · rw [o.cellAt i (by omega), List.getElem?_map, hb]; rfl
    · simp [World.frozen?, q3]

/-- What says is to do with an address. -/
def SaysK (mb : Nat) (w : World) (ap o : Nat) (b : Bool) : Prop := ∀ wx, Kp [] w wx → Calls Tryz.prog 126 #[.pointer (some ⟨mb, 0, none⟩), .pointer (some ⟨ap, o, none⟩)] wx fun r w' => r = .returned (.bool b) ∧ Kp [] wx w'

set_option maxHeartbeats 1000000 in
theorem saysK_num {g o n : Nat} {b : Bool} (h : Mac w0 w mb sb db s) (h0 : w.cell? ⟨g, o, none⟩ = some (.int .i64 0)) (h1 : w.cell? ⟨g, o + 1, none⟩ = some (.int .i64 n)) (hb : ((s.number : Int) == (n : Int)) = b) : SaysK mb w g o b := by
  intro wx kx
  have hl := World.block_lt_of_cell? _ _ h0
  have c8 := (h.keep kx).b.at_ 8 _ rfl
  have d0 := (kx.cell (p := ⟨g, o, none⟩) hl (by simp)).trans h0
  have d1 := (kx.cell (p := ⟨g, o + 1, none⟩) hl (by simp)).trans h1
  clear h0 h1
  go_enter Tryz.func126, Tryz.ntmps126
  go_wp2_with fail
  go_quiet (fail)
  go_wp2_with fail
  go_ret
  exact ⟨rfl, Kp.drewN _ _ _⟩

/-- A command with two addresses. -/
structure Two (w : World) (ca co ap i kd n2 : Nat) : Prop where
  c0 : ∃ cap, w.cell? ⟨ca, co, none⟩ = some (.slice (some ⟨ap, 0, none⟩) 2 cap)
  c1 : w.cell? ⟨ca, co + 1, none⟩ = some (.int .i64 i)
  a4 : w.cell? ⟨ap, 4, none⟩ = some (.int .i64 kd)
  a5 : w.cell? ⟨ap, 5, none⟩ = some (.int .i64 n2)
theorem Two.keep {ca co ap i kd n2 : Nat} (h : Two w ca co ap i kd n2) (k : Kp [] w w') : Two w' ca co ap i kd n2 := by
  obtain ⟨cap, h0⟩ := h.c0
  exact ⟨⟨cap, (k.cell (World.block_lt_of_cell? _ _ h0) (by simp)).trans h0⟩, (k.cell (World.block_lt_of_cell? _ _ h.c1) (by simp)).trans h.c1, (k.cell (World.block_lt_of_cell? _ _ h.a4) (by simp)).trans h.a4, (k.cell (World.block_lt_of_cell? _ _ h.a5) (by simp)).trans h.a5⟩
def Pst.rgd (p : Pst) (i : Nat) (b : Bool) : Pst := { p with rg := p.rg.set i b }

set_option maxRecDepth 100000 in
set_option maxHeartbeats 4000000 in
theorem ranged_num_on {ca co ap i n2 : Nat} (h : Mac w0 w mb sb db s) (hT : Two w ca co ap i 0 n2) (hg : s.r.rg[i]? = some true) :
    Calls Tryz.prog 127 #[.pointer (some ⟨mb, 0, none⟩), .pointer (some ⟨ca, co, none⟩)] w fun r w' => r = .returned (.bool true) ∧ Goes w0 mb sb db w s w' (s.p.rgd i (decide (s.number < n2))) := by
  obtain ⟨cap, c0⟩ := hT.c0
  obtain ⟨g, cg, evr, hcg, _⟩ := h.rgAt hg
  have hi : i < s.r.rg.length := (List.getElem?_eq_some_iff.1 hg).1
  obtain ⟨n, hnl⟩ : ∃ n, n = s.r.rg.length := ⟨_, rfl⟩
  have c1 := hT.c1
  have c11 := h.b.at_ 11 _ rfl
  rw [evr, ← hnl] at c11
  rw [← hnl] at hi
  have HM := hid h
  have HT := hid hT
  have HEV := hid evr
  have HG := hid hg
  clear h hT hcg evr hg hnl
  go_enter Tryz.func127, Tryz.ntmps127
  go_wp2_with fail
  go_quiet (fail)
  have d11 : (w.drewN nq).cell? ⟨mb, 11, none⟩ = _ := c11
  have d1 : (w.drewN nq).cell? ⟨ca, co + 1, none⟩ = _ := c1
  have ka := Kp.drewN [] w nq
  obtain ⟨wa, hwa⟩ : ∃ wa, wa = w.drewN nq := ⟨_, rfl⟩
  rw [← hwa] at d11 d1 ka ⊢
  clear hwa c0 c1 c11
  go_wp2_with fail
  go_quiet (fail)
  have kb := ka.trans (Kp.drewN [] wa nq)
  obtain ⟨wb, hwb⟩ : ∃ wb, wb = wa.drewN nq := ⟨_, rfl⟩
  rw [← hwb] at kb ⊢
  clear hwb d11 d1 ka
  have hTb := HT.out.keep kb
  have hMb := HM.out.keep kb
  have a4 := hTb.a4
  obtain ⟨g', cg', evr', hcg, _⟩ := hMb.rgAt HG.out
  obtain rfl : g' = g := by rw [HEV.out] at evr'; injection evr' with e _ _; injection e with e; injection e with e; exact e.symm
  clear hTb hMb evr'
  go_wp2_with fail
  have kc := kb
  obtain ⟨wc, hwc⟩ : ∃ wc, wc = wb := ⟨_, rfl⟩
  rw [← hwc] at kc hcg
  have kd := kc.trans (Kp.drew [] wc)
  have hM := HM.out.keep kd
  have hTd := HT.out.keep kd
  obtain ⟨g2, cg2, evr2, hcg2, hfr⟩ := hM.rgAt HG.out
  obtain rfl : g2 = g' := by rw [HEV.out] at evr2; injection evr2 with e _ _; injection e with e; injection e with e; exact e.symm
  have FIN := hid (hM.setRg (i := i) evr2 (decide (s.number < n2)))
  have hS : (fun w' : World => w'.cell? ⟨mb, 8, none⟩ = some (.int .i64 s.number) ∧ w'.cell? ⟨ap, 5, none⟩ = some (.int .i64 n2)) wc.drew := ⟨hM.b.at_ 8 _ rfl, hTd.a5⟩
  have fi := hfr i
  obtain ⟨wd, hwd⟩ : ∃ wd, wd = wc.drew := ⟨_, rfl⟩
  rw [← hwd] at kd hcg2 fi FIN hS
  clear hM hTd evr2 hfr hcg a4
  subst hwc
  go_upto_region 5 with fail
  refine wp_region_T (fun w' : World => w'.cell? ⟨mb, 8, none⟩ = some (.int .i64 s.number) ∧ w'.cell? ⟨ap, 5, none⟩ = some (.int .i64 n2)) 14 (by kernel_rfl) ?_
  rw [← hwd]
  clear hwd
  have hdec : decide ((s.number : Int) < (n2 : Int)) = decide (s.number < n2) := by simp
  refine wpAnyT_take (i := 0) (v := ?v0) rfl (by kernel_rfl) (by kernel_rfl) (by kernel_rfl) (by kernel_rfl) (fun _ _ _ h => h) (Or.inl ⟨by rfl, ?y0⟩) hS ?_
  case y0 => (intro w hSw; (try dsimp only at hSw); go_simp; (try with_reducible rfl))
  simp only [List.getElem_toArray, List.getElem_cons_zero, Act.put, List.setIfInBounds_toArray, List.set_cons_zero, List.set_cons_succ]
  refine wpAnyT_take (i := 1) (v := ?v1) rfl (by kernel_rfl) (by kernel_rfl) (by kernel_rfl) (by kernel_rfl) (fun _ _ _ h => h) (Or.inl ⟨by rfl, ?y1⟩) hS ?_
  case y1 => (intro w hSw; (try dsimp only at hSw); go_simp; (try with_reducible rfl))
  simp only [List.getElem_toArray, List.getElem_cons_succ, List.getElem_cons_zero, Act.put, List.setIfInBounds_toArray, List.set_cons_zero, List.set_cons_succ]
  refine wpAnyT_take (i := 2) (v := ?v2) rfl (by kernel_rfl) (by kernel_rfl) (by kernel_rfl) (by kernel_rfl) (fun _ _ _ h => h) (Or.inl ⟨by rfl, ?y2⟩) hS ?_
  case y2 => (intro w hSw; (try dsimp only at hSw); go_simp; (try with_reducible rfl))
  simp only [List.getElem_toArray, List.getElem_cons_succ, List.getElem_cons_zero, Act.put, List.setIfInBounds_toArray, List.set_cons_zero, List.set_cons_succ]
  refine wpAnyT_take (i := 3) (v := ?v3) rfl (by kernel_rfl) (by kernel_rfl) (by kernel_rfl) (by kernel_rfl) (fun _ _ _ h => h) (Or.inl ⟨by rfl, ?y3⟩) hS ?_
  case y3 => (intro w hSw; (try dsimp only at hSw); go_simp; (try with_reducible rfl))
  simp only [List.getElem_toArray, List.getElem_cons_succ, List.getElem_cons_zero, Act.put, List.setIfInBounds_toArray, List.set_cons_zero, List.set_cons_succ]
  refine wpAnyT_take (i := 4) (v := ?v4) rfl (by kernel_rfl) (by kernel_rfl) (by kernel_rfl) (by kernel_rfl) (fun _ _ _ h => h) (Or.inl ⟨by rfl, ?y4⟩) hS ?_
  case y4 => (intro w hSw; (try dsimp only at hSw); go_simp; (try with_reducible rfl))
  simp only [List.getElem_toArray, List.getElem_cons_succ, List.getElem_cons_zero, Act.put, List.setIfInBounds_toArray, List.set_cons_zero, List.set_cons_succ]
  refine wpAnyT_take (i := 5) (v := ?v5) rfl (by kernel_rfl) (by kernel_rfl) (by kernel_rfl) (by kernel_rfl) (fun _ _ _ h => h) (Or.inl ⟨by rfl, ?y5⟩) hS ?_
  case y5 => (intro w hSw; (try dsimp only at hSw); go_simp; (try with_reducible rfl))
  simp only [List.getElem_toArray, List.getElem_cons_succ, List.getElem_cons_zero, Act.put, List.setIfInBounds_toArray, List.set_cons_zero, List.set_cons_succ]
  refine wpAnyT_take (i := 6) (v := ?v6) rfl (by kernel_rfl) (by kernel_rfl) (by kernel_rfl) (by kernel_rfl) (fun _ _ _ h => h) (Or.inl ⟨by rfl, ?y6⟩) hS ?_
  case y6 => (intro w hSw; (try dsimp only at hSw); go_simp; (try with_reducible rfl))
  simp only [List.getElem_toArray, List.getElem_cons_succ, List.getElem_cons_zero, Act.put, List.setIfInBounds_toArray, List.set_cons_zero, List.set_cons_succ]
  refine wpAnyT_take (i := 7) (v := ?v7) rfl (by kernel_rfl) (by kernel_rfl) (by kernel_rfl) (by kernel_rfl) (fun _ _ _ h => h) (Or.inl ⟨by rfl, ?y7⟩) hS ?_
  case y7 => (intro w hSw; (try dsimp only at hSw); go_simp; (try with_reducible rfl))
  simp only [List.getElem_toArray, List.getElem_cons_succ, List.getElem_cons_zero, Act.put, List.setIfInBounds_toArray, List.set_cons_zero, List.set_cons_succ]
  refine wpAnyT_take (i := 8) (v := ?v8) rfl (by kernel_rfl) (by kernel_rfl) (by kernel_rfl) (by kernel_rfl) (fun _ _ _ h => h) (Or.inl ⟨by rfl, ?y8⟩) hS ?_
  case y8 => (intro w hSw; (try dsimp only at hSw); go_simp; (try with_reducible rfl))
  simp only [List.getElem_toArray, List.getElem_cons_succ, List.getElem_cons_zero, Act.put, List.setIfInBounds_toArray, List.set_cons_zero, List.set_cons_succ]
  refine wpAnyT_take (i := 9) (v := ?v9) rfl (by kernel_rfl) (by kernel_rfl) (by kernel_rfl) (by kernel_rfl) (fun _ _ _ h => h) (Or.inl ⟨by rfl, ?y9⟩) hS ?_
  case y9 => (intro w hSw; (try dsimp only at hSw); go_simp; (try with_reducible rfl))
  simp only [List.getElem_toArray, List.getElem_cons_succ, List.getElem_cons_zero, Act.put, List.setIfInBounds_toArray, List.set_cons_zero, List.set_cons_succ]
  refine wpAnyT_take (i := 10) (v := ?v10) rfl (by kernel_rfl) (by kernel_rfl) (by kernel_rfl) (by kernel_rfl) (fun _ _ _ h => h) (Or.inl ⟨by rfl, ?y10⟩) hS ?_
  case y10 => (intro w hSw; (try dsimp only at hSw); go_simp; (try with_reducible rfl))
  simp only [List.getElem_toArray, List.getElem_cons_succ, List.getElem_cons_zero, Act.put, List.setIfInBounds_toArray, List.set_cons_zero, List.set_cons_succ]
  refine wpAnyT_take (i := 11) (v := ?v11) rfl (by kernel_rfl) (by kernel_rfl) (by kernel_rfl) (by kernel_rfl) (fun _ _ _ h => h) (Or.inl ⟨by rfl, ?y11⟩) hS ?_
  case y11 => (intro w hSw; (try dsimp only at hSw); go_simp; (try with_reducible rfl))
  simp only [List.getElem_toArray, List.getElem_cons_succ, List.getElem_cons_zero, Act.put, List.setIfInBounds_toArray, List.set_cons_zero, List.set_cons_succ]
  refine wpAnyT_take (i := 12) (v := ?v12) rfl (by kernel_rfl) (by kernel_rfl) (by kernel_rfl) (by kernel_rfl) (fun _ _ _ h => h) (Or.inl ⟨by rfl, ?y12⟩) hS ?_
  case y12 => (intro w hSw; (try dsimp only at hSw); go_simp; (try with_reducible rfl))
  simp only [List.getElem_toArray, List.getElem_cons_succ, List.getElem_cons_zero, Act.put, List.setIfInBounds_toArray, List.set_cons_zero, List.set_cons_succ]
  refine wpAnyT_take (i := 13) (v := ?v13) rfl (by kernel_rfl) (by kernel_rfl) (by kernel_rfl) (by kernel_rfl) (fun _ _ _ h => h) (Or.inl ⟨by rfl, ?y13⟩) hS ?_
  case y13 => (intro w hSw; (try dsimp only at hSw); go_simp; (try with_reducible rfl))
  simp only [List.getElem_toArray, List.getElem_cons_succ, List.getElem_cons_zero, Act.put, List.setIfInBounds_toArray, List.set_cons_zero, List.set_cons_succ]
  refine wpAnyT_one (i := 14) (by kernel_rfl) rfl (fun K hK => ?_)
  go_simp
  refine hK.out _ _ (.inl rfl) ?_
  clear hK K
  refine wpAnyT_done (by kernel_rfl) ?_ _
  go_wp2_with fail
  go_ret
  obtain ⟨m3, g3⟩ := FIN.out
  exact ⟨rfl, _, rfl, m3, (Gr.of_kp (r := s.r) kd (fun _ e => by cases e)).trans g3⟩

set_option maxRecDepth 100000 in
set_option maxHeartbeats 4000000 in
theorem ranged_num_begins {ca co ap i n2 : Nat} (h : Mac w0 w mb sb db s) (hT : Two w ca co ap i 0 n2) (hg : s.r.rg[i]? = some false) (h1 : SaysK mb w ap 0 true) :
    Calls Tryz.prog 127 #[.pointer (some ⟨mb, 0, none⟩), .pointer (some ⟨ca, co, none⟩)] w fun r w' => r = .returned (.bool true) ∧ Goes w0 mb sb db w s w' (s.p.rgd i (decide (s.number < n2))) := by
  obtain ⟨cap, c0⟩ := hT.c0
  obtain ⟨g, cg, evr, hcg, _⟩ := h.rgAt hg
  have hi : i < s.r.rg.length := (List.getElem?_eq_some_iff.1 hg).1
  obtain ⟨n, hnl⟩ : ∃ n, n = s.r.rg.length := ⟨_, rfl⟩
  have c1 := hT.c1
  have c11 := h.b.at_ 11 _ rfl
  rw [evr, ← hnl] at c11
  rw [← hnl] at hi
  have HM := hid h
  have HT := hid hT
  have HEV := hid evr
  have HG := hid hg
  clear h hT hcg evr hg hnl
  go_enter Tryz.func127, Tryz.ntmps127
  go_wp2_with fail
  go_quiet (fail)
  have d11 : (w.drewN nq).cell? ⟨mb, 11, none⟩ = _ := c11
  have d1 : (w.drewN nq).cell? ⟨ca, co + 1, none⟩ = _ := c1
  have ka := Kp.drewN [] w nq
  obtain ⟨wa, hwa⟩ : ∃ wa, wa = w.drewN nq := ⟨_, rfl⟩
  rw [← hwa] at d11 d1 ka ⊢
  clear hwa c0 c1 c11
  go_wp2_with fail
  go_quiet (fail)
  have kb := ka.trans (Kp.drewN [] wa nq)
  obtain ⟨wb, hwb⟩ : ∃ wb, wb = wa.drewN nq := ⟨_, rfl⟩
  rw [← hwb] at kb ⊢
  clear hwb d11 d1 ka
  have hTb := HT.out.keep kb
  have hMb := HM.out.keep kb
  have a4 := hTb.a4
  obtain ⟨g', cg', evr', hcg, _⟩ := hMb.rgAt HG.out
  obtain rfl : g' = g := by rw [HEV.out] at evr'; injection evr' with e _ _; injection e with e; injection e with e; exact e.symm
  clear hTb hMb evr'
  go_wp2_with fail
  refine (h1 _ kb).mono ?_
  rintro r wc ⟨rfl, kc⟩
  have kc := kb.trans kc
  have kd := kc.trans (Kp.drew [] wc)
  have hM := HM.out.keep kd
  have hTd := HT.out.keep kd
  obtain ⟨g2, cg2, evr2, hcg2, hfr⟩ := hM.rgAt HG.out
  obtain rfl : g2 = g' := by rw [HEV.out] at evr2; injection evr2 with e _ _; injection e with e; injection e with e; exact e.symm
  have FIN := hid (hM.setRg (i := i) evr2 (decide (s.number < n2)))
  have hS : (fun w' : World => w'.cell? ⟨mb, 8, none⟩ = some (.int .i64 s.number) ∧ w'.cell? ⟨ap, 5, none⟩ = some (.int .i64 n2)) wc.drew := ⟨hM.b.at_ 8 _ rfl, hTd.a5⟩
  have fi := hfr i
  obtain ⟨wd, hwd⟩ : ∃ wd, wd = wc.drew := ⟨_, rfl⟩
  rw [← hwd] at kd hcg2 fi FIN hS
  clear hM hTd evr2 hfr hcg a4
  go_upto_region 5 with fail
  refine wp_region_T (fun w' : World => w'.cell? ⟨mb, 8, none⟩ = some (.int .i64 s.number) ∧ w'.cell? ⟨ap, 5, none⟩ = some (.int .i64 n2)) 14 (by kernel_rfl) ?_
  rw [← hwd]
  clear hwd
  have hdec : decide ((s.number : Int) < (n2 : Int)) = decide (s.number < n2) := by simp
  refine wpAnyT_take (i := 0) (v := ?v0) rfl (by kernel_rfl) (by kernel_rfl) (by kernel_rfl) (by kernel_rfl) (fun _ _ _ h => h) (Or.inl ⟨by rfl, ?y0⟩) hS ?_
  case y0 => (intro w hSw; (try dsimp only at hSw); go_simp; (try with_reducible rfl))
  simp only [List.getElem_toArray, List.getElem_cons_zero, Act.put, List.setIfInBounds_toArray, List.set_cons_zero, List.set_cons_succ]
  refine wpAnyT_take (i := 1) (v := ?v1) rfl (by kernel_rfl) (by kernel_rfl) (by kernel_rfl) (by kernel_rfl) (fun _ _ _ h => h) (Or.inl ⟨by rfl, ?y1⟩) hS ?_
  case y1 => (intro w hSw; (try dsimp only at hSw); go_simp; (try with_reducible rfl))
  simp only [List.getElem_toArray, List.getElem_cons_succ, List.getElem_cons_zero, Act.put, List.setIfInBounds_toArray, List.set_cons_zero, List.set_cons_succ]
  refine wpAnyT_take (i := 2) (v := ?v2) rfl (by kernel_rfl) (by kernel_rfl) (by kernel_rfl) (by kernel_rfl) (fun _ _ _ h => h) (Or.inl ⟨by rfl, ?y2⟩) hS ?_
  case y2 => (intro w hSw; (try dsimp only at hSw); go_simp; (try with_reducible rfl))
  simp only [List.getElem_toArray, List.getElem_cons_succ, List.getElem_cons_zero, Act.put, List.setIfInBounds_toArray, List.set_cons_zero, List.set_cons_succ]
  refine wpAnyT_take (i := 3) (v := ?v3) rfl (by kernel_rfl) (by kernel_rfl) (by kernel_rfl) (by kernel_rfl) (fun _ _ _ h => h) (Or.inl ⟨by rfl, ?y3⟩) hS ?_
  case y3 => (intro w hSw; (try dsimp only at hSw); go_simp; (try with_reducible rfl))
  simp only [List.getElem_toArray, List.getElem_cons_succ, List.getElem_cons_zero, Act.put, List.setIfInBounds_toArray, List.set_cons_zero, List.set_cons_succ]
  refine wpAnyT_take (i := 4) (v := ?v4) rfl (by kernel_rfl) (by kernel_rfl) (by kernel_rfl) (by kernel_rfl) (fun _ _ _ h => h) (Or.inl ⟨by rfl, ?y4⟩) hS ?_
  case y4 => (intro w hSw; (try dsimp only at hSw); go_simp; (try with_reducible rfl))
  simp only [List.getElem_toArray, List.getElem_cons_succ, List.getElem_cons_zero, Act.put, List.setIfInBounds_toArray, List.set_cons_zero, List.set_cons_succ]
  refine wpAnyT_take (i := 5) (v := ?v5) rfl (by kernel_rfl) (by kernel_rfl) (by kernel_rfl) (by kernel_rfl) (fun _ _ _ h => h) (Or.inl ⟨by rfl, ?y5⟩) hS ?_
  case y5 => (intro w hSw; (try dsimp only at hSw); go_simp; (try with_reducible rfl))
  simp only [List.getElem_toArray, List.getElem_cons_succ, List.getElem_cons_zero, Act.put, List.setIfInBounds_toArray, List.set_cons_zero, List.set_cons_succ]
  refine wpAnyT_take (i := 6) (v := ?v6) rfl (by kernel_rfl) (by kernel_rfl) (by kernel_rfl) (by kernel_rfl) (fun _ _ _ h => h) (Or.inl ⟨by rfl, ?y6⟩) hS ?_
  case y6 => (intro w hSw; (try dsimp only at hSw); go_simp; (try with_reducible rfl))
  simp only [List.getElem_toArray, List.getElem_cons_succ, List.getElem_cons_zero, Act.put, List.setIfInBounds_toArray, List.set_cons_zero, List.set_cons_succ]
  refine wpAnyT_take (i := 7) (v := ?v7) rfl (by kernel_rfl) (by kernel_rfl) (by kernel_rfl) (by kernel_rfl) (fun _ _ _ h => h) (Or.inl ⟨by rfl, ?y7⟩) hS ?_
  case y7 => (intro w hSw; (try dsimp only at hSw); go_simp; (try with_reducible rfl))
  simp only [List.getElem_toArray, List.getElem_cons_succ, List.getElem_cons_zero, Act.put, List.setIfInBounds_toArray, List.set_cons_zero, List.set_cons_succ]
  refine wpAnyT_take (i := 8) (v := ?v8) rfl (by kernel_rfl) (by kernel_rfl) (by kernel_rfl) (by kernel_rfl) (fun _ _ _ h => h) (Or.inl ⟨by rfl, ?y8⟩) hS ?_
  case y8 => (intro w hSw; (try dsimp only at hSw); go_simp; (try with_reducible rfl))
  simp only [List.getElem_toArray, List.getElem_cons_succ, List.getElem_cons_zero, Act.put, List.setIfInBounds_toArray, List.set_cons_zero, List.set_cons_succ]
  refine wpAnyT_take (i := 9) (v := ?v9) rfl (by kernel_rfl) (by kernel_rfl) (by kernel_rfl) (by kernel_rfl) (fun _ _ _ h => h) (Or.inl ⟨by rfl, ?y9⟩) hS ?_
  case y9 => (intro w hSw; (try dsimp only at hSw); go_simp; (try with_reducible rfl))
  simp only [List.getElem_toArray, List.getElem_cons_succ, List.getElem_cons_zero, Act.put, List.setIfInBounds_toArray, List.set_cons_zero, List.set_cons_succ]
  refine wpAnyT_take (i := 10) (v := ?v10) rfl (by kernel_rfl) (by kernel_rfl) (by kernel_rfl) (by kernel_rfl) (fun _ _ _ h => h) (Or.inl ⟨by rfl, ?y10⟩) hS ?_
  case y10 => (intro w hSw; (try dsimp only at hSw); go_simp; (try with_reducible rfl))
  simp only [List.getElem_toArray, List.getElem_cons_succ, List.getElem_cons_zero, Act.put, List.setIfInBounds_toArray, List.set_cons_zero, List.set_cons_succ]
  refine wpAnyT_take (i := 11) (v := ?v11) rfl (by kernel_rfl) (by kernel_rfl) (by kernel_rfl) (by kernel_rfl) (fun _ _ _ h => h) (Or.inl ⟨by rfl, ?y11⟩) hS ?_
  case y11 => (intro w hSw; (try dsimp only at hSw); go_simp; (try with_reducible rfl))
  simp only [List.getElem_toArray, List.getElem_cons_succ, List.getElem_cons_zero, Act.put, List.setIfInBounds_toArray, List.set_cons_zero, List.set_cons_succ]
  refine wpAnyT_take (i := 12) (v := ?v12) rfl (by kernel_rfl) (by kernel_rfl) (by kernel_rfl) (by kernel_rfl) (fun _ _ _ h => h) (Or.inl ⟨by rfl, ?y12⟩) hS ?_
  case y12 => (intro w hSw; (try dsimp only at hSw); go_simp; (try with_reducible rfl))
  simp only [List.getElem_toArray, List.getElem_cons_succ, List.getElem_cons_zero, Act.put, List.setIfInBounds_toArray, List.set_cons_zero, List.set_cons_succ]
  refine wpAnyT_take (i := 13) (v := ?v13) rfl (by kernel_rfl) (by kernel_rfl) (by kernel_rfl) (by kernel_rfl) (fun _ _ _ h => h) (Or.inl ⟨by rfl, ?y13⟩) hS ?_
  case y13 => (intro w hSw; (try dsimp only at hSw); go_simp; (try with_reducible rfl))
  simp only [List.getElem_toArray, List.getElem_cons_succ, List.getElem_cons_zero, Act.put, List.setIfInBounds_toArray, List.set_cons_zero, List.set_cons_succ]
  refine wpAnyT_one (i := 14) (by kernel_rfl) rfl (fun K hK => ?_)
  go_simp
  refine hK.out _ _ (.inl rfl) ?_
  clear hK K
  refine wpAnyT_done (by kernel_rfl) ?_ _
  go_wp2_with fail
  go_ret
  obtain ⟨m3, g3⟩ := FIN.out
  exact ⟨rfl, _, rfl, m3, (Gr.of_kp (r := s.r) kd (fun _ e => by cases e)).trans g3⟩

set_option maxRecDepth 100000 in
set_option maxHeartbeats 4000000 in
theorem ranged_num_not {ca co ap i n2 : Nat} (h : Mac w0 w mb sb db s) (hT : Two w ca co ap i 0 n2) (hg : s.r.rg[i]? = some false) (h1 : SaysK mb w ap 0 false) :
    Calls Tryz.prog 127 #[.pointer (some ⟨mb, 0, none⟩), .pointer (some ⟨ca, co, none⟩)] w fun r w' => r = .returned (.bool false) ∧ Goes w0 mb sb db w s w' (s.p.rgd i false) := by
  obtain ⟨cap, c0⟩ := hT.c0
  obtain ⟨g, cg, evr, hcg, _⟩ := h.rgAt hg
  have hi : i < s.r.rg.length := (List.getElem?_eq_some_iff.1 hg).1
  obtain ⟨n, hnl⟩ : ∃ n, n = s.r.rg.length := ⟨_, rfl⟩
  have c1 := hT.c1
  have c11 := h.b.at_ 11 _ rfl
  rw [evr, ← hnl] at c11
  rw [← hnl] at hi
  have HM := hid h
  have HT := hid hT
  have HEV := hid evr
  have HG := hid hg
  clear h hT hcg evr hg hnl
  go_enter Tryz.func127, Tryz.ntmps127
  go_wp2_with fail
  go_quiet (fail)
  have d11 : (w.drewN nq).cell? ⟨mb, 11, none⟩ = _ := c11
  have d1 : (w.drewN nq).cell? ⟨ca, co + 1, none⟩ = _ := c1
  have ka := Kp.drewN [] w nq
  obtain ⟨wa, hwa⟩ : ∃ wa, wa = w.drewN nq := ⟨_, rfl⟩
  rw [← hwa] at d11 d1 ka ⊢
  clear hwa c0 c1 c11
  go_wp2_with fail
  go_quiet (fail)
  have kb := ka.trans (Kp.drewN [] wa nq)
  obtain ⟨wb, hwb⟩ : ∃ wb, wb = wa.drewN nq := ⟨_, rfl⟩
  rw [← hwb] at kb ⊢
  clear hwb d11 d1 ka
  have hTb := HT.out.keep kb
  have hMb := HM.out.keep kb
  have a4 := hTb.a4
  obtain ⟨g', cg', evr', hcg, _⟩ := hMb.rgAt HG.out
  obtain rfl : g' = g := by rw [HEV.out] at evr'; injection evr' with e _ _; injection e with e; injection e with e; exact e.symm
  clear hTb hMb evr'
  go_wp2_with fail
  refine (h1 _ kb).mono ?_
  rintro r wc ⟨rfl, kc⟩
  have kc := kb.trans kc
  have kd := kc.trans (Kp.drew [] wc)
  have hM := HM.out.keep kd
  have hTd := HT.out.keep kd
  obtain ⟨g2, cg2, evr2, hcg2, hfr⟩ := hM.rgAt HG.out
  obtain rfl : g2 = g' := by rw [HEV.out] at evr2; injection evr2 with e _ _; injection e with e; injection e with e; exact e.symm
  have FIN := hid (hM.setRg (i := i) evr2 false)
  have hS : (fun w' : World => w'.cell? ⟨mb, 8, none⟩ = some (.int .i64 s.number) ∧ w'.cell? ⟨ap, 5, none⟩ = some (.int .i64 n2)) wc.drew := ⟨hM.b.at_ 8 _ rfl, hTd.a5⟩
  have fi := hfr i
  obtain ⟨wd, hwd⟩ : ∃ wd, wd = wc.drew := ⟨_, rfl⟩
  rw [← hwd] at kd hcg2 fi FIN hS
  clear hM hTd evr2 hfr hcg a4
  go_upto_region 5 with fail
  refine wp_region_T (fun w' : World => w'.cell? ⟨mb, 8, none⟩ = some (.int .i64 s.number) ∧ w'.cell? ⟨ap, 5, none⟩ = some (.int .i64 n2)) 14 (by kernel_rfl) ?_
  rw [← hwd]
  clear hwd
  refine wpAnyT_take (i := 0) (v := ?v0) rfl (by kernel_rfl) (by kernel_rfl) (by kernel_rfl) (by kernel_rfl) (fun _ _ _ h => h) (Or.inl ⟨by rfl, ?y0⟩) hS ?_
  case y0 => (intro w hSw; (try dsimp only at hSw); go_simp; (try with_reducible rfl))
  simp only [List.getElem_toArray, List.getElem_cons_zero, Act.put, List.setIfInBounds_toArray, List.set_cons_zero, List.set_cons_succ]
  refine wpAnyT_take (i := 1) (v := ?v1) rfl (by kernel_rfl) (by kernel_rfl) (by kernel_rfl) (by kernel_rfl) (fun _ _ _ h => h) (Or.inl ⟨by rfl, ?y1⟩) hS ?_
  case y1 => (intro w hSw; (try dsimp only at hSw); go_simp; (try with_reducible rfl))
  simp only [List.getElem_toArray, List.getElem_cons_succ, List.getElem_cons_zero, Act.put, List.setIfInBounds_toArray, List.set_cons_zero, List.set_cons_succ]
  refine wpAnyT_take (i := 2) (v := ?v2) rfl (by kernel_rfl) (by kernel_rfl) (by kernel_rfl) (by kernel_rfl) (fun _ _ _ h => h) (Or.inl ⟨by rfl, ?y2⟩) hS ?_
  case y2 => (intro w hSw; (try dsimp only at hSw); go_simp; (try with_reducible rfl))
  simp only [List.getElem_toArray, List.getElem_cons_succ, List.getElem_cons_zero, Act.put, List.setIfInBounds_toArray, List.set_cons_zero, List.set_cons_succ]
  refine wpAnyT_take (i := 3) (v := undef) rfl (by kernel_rfl) (by kernel_rfl) (by kernel_rfl) (by kernel_rfl) (fun _ _ _ h => h) (Or.inr ⟨by rfl, rfl⟩) hS ?_
  simp only [List.getElem_toArray, List.getElem_cons_succ, List.getElem_cons_zero, Act.put, List.setIfInBounds_toArray, List.set_cons_zero, List.set_cons_succ]
  refine wpAnyT_take (i := 4) (v := undef) rfl (by kernel_rfl) (by kernel_rfl) (by kernel_rfl) (by kernel_rfl) (fun _ _ _ h => h) (Or.inr ⟨by rfl, rfl⟩) hS ?_
  simp only [List.getElem_toArray, List.getElem_cons_succ, List.getElem_cons_zero, Act.put, List.setIfInBounds_toArray, List.set_cons_zero, List.set_cons_succ]
  refine wpAnyT_take (i := 5) (v := undef) rfl (by kernel_rfl) (by kernel_rfl) (by kernel_rfl) (by kernel_rfl) (fun _ _ _ h => h) (Or.inr ⟨by rfl, rfl⟩) hS ?_
  simp only [List.getElem_toArray, List.getElem_cons_succ, List.getElem_cons_zero, Act.put, List.setIfInBounds_toArray, List.set_cons_zero, List.set_cons_succ]
  refine wpAnyT_take (i := 6) (v := undef) rfl (by kernel_rfl) (by kernel_rfl) (by kernel_rfl) (by kernel_rfl) (fun _ _ _ h => h) (Or.inr ⟨by rfl, rfl⟩) hS ?_
  simp only [List.getElem_toArray, List.getElem_cons_succ, List.getElem_cons_zero, Act.put, List.setIfInBounds_toArray, List.set_cons_zero, List.set_cons_succ]
  refine wpAnyT_take (i := 7) (v := undef) rfl (by kernel_rfl) (by kernel_rfl) (by kernel_rfl) (by kernel_rfl) (fun _ _ _ h => h) (Or.inr ⟨by rfl, rfl⟩) hS ?_
  simp only [List.getElem_toArray, List.getElem_cons_succ, List.getElem_cons_zero, Act.put, List.setIfInBounds_toArray, List.set_cons_zero, List.set_cons_succ]
  refine wpAnyT_take (i := 8) (v := undef) rfl (by kernel_rfl) (by kernel_rfl) (by kernel_rfl) (by kernel_rfl) (fun _ _ _ h => h) (Or.inr ⟨by rfl, rfl⟩) hS ?_
  simp only [List.getElem_toArray, List.getElem_cons_succ, List.getElem_cons_zero, Act.put, List.setIfInBounds_toArray, List.set_cons_zero, List.set_cons_succ]
  refine wpAnyT_take (i := 9) (v := undef) rfl (by kernel_rfl) (by kernel_rfl) (by kernel_rfl) (by kernel_rfl) (fun _ _ _ h => h) (Or.inr ⟨by rfl, rfl⟩) hS ?_
  simp only [List.getElem_toArray, List.getElem_cons_succ, List.getElem_cons_zero, Act.put, List.setIfInBounds_toArray, List.set_cons_zero, List.set_cons_succ]
  refine wpAnyT_take (i := 10) (v := undef) rfl (by kernel_rfl) (by kernel_rfl) (by kernel_rfl) (by kernel_rfl) (fun _ _ _ h => h) (Or.inr ⟨by rfl, rfl⟩) hS ?_
  simp only [List.getElem_toArray, List.getElem_cons_succ, List.getElem_cons_zero, Act.put, List.setIfInBounds_toArray, List.set_cons_zero, List.set_cons_succ]
  refine wpAnyT_take (i := 11) (v := undef) rfl (by kernel_rfl) (by kernel_rfl) (by kernel_rfl) (by kernel_rfl) (fun _ _ _ h => h) (Or.inr ⟨by rfl, rfl⟩) hS ?_
  simp only [List.getElem_toArray, List.getElem_cons_succ, List.getElem_cons_zero, Act.put, List.setIfInBounds_toArray, List.set_cons_zero, List.set_cons_succ]
  refine wpAnyT_take (i := 12) (v := ?v12) rfl (by kernel_rfl) (by kernel_rfl) (by kernel_rfl) (by kernel_rfl) (fun _ _ _ h => h) (Or.inl ⟨by rfl, ?y12⟩) hS ?_
  case y12 => (intro w hSw; (try dsimp only at hSw); go_simp; (try with_reducible rfl))
  simp only [List.getElem_toArray, List.getElem_cons_succ, List.getElem_cons_zero, Act.put, List.setIfInBounds_toArray, List.set_cons_zero, List.set_cons_succ]
  refine wpAnyT_take (i := 13) (v := ?v13) rfl (by kernel_rfl) (by kernel_rfl) (by kernel_rfl) (by kernel_rfl) (fun _ _ _ h => h) (Or.inl ⟨by rfl, ?y13⟩) hS ?_
  case y13 => (intro w hSw; (try dsimp only at hSw); go_simp; (try with_reducible rfl))
  simp only [List.getElem_toArray, List.getElem_cons_succ, List.getElem_cons_zero, Act.put, List.setIfInBounds_toArray, List.set_cons_zero, List.set_cons_succ]
  refine wpAnyT_one (i := 14) (by kernel_rfl) rfl (fun K hK => ?_)
  go_simp
  refine hK.out _ _ (.inl rfl) ?_
  clear hK K
  refine wpAnyT_done (by kernel_rfl) ?_ _
  go_wp2_with fail
  go_ret
  obtain ⟨m3, g3⟩ := FIN.out
  exact ⟨rfl, _, rfl, m3, (Gr.of_kp (r := s.r) kd (fun _ e => by cases e)).trans g3⟩

set_option maxRecDepth 100000 in
set_option maxHeartbeats 4000000 in
theorem ranged_on {ca co ap i kd n2 : Nat} {b : Bool} (h : Mac w0 w mb sb db s) (hT : Two w ca co ap i kd n2) (hkd : kd ≠ 0) (hg : s.r.rg[i]? = some true) (h1 : SaysK mb w ap 4 b) :
    Calls Tryz.prog 127 #[.pointer (some ⟨mb, 0, none⟩), .pointer (some ⟨ca, co, none⟩)] w fun r w' => r = .returned (.bool true) ∧ Goes w0 mb sb db w s w' (s.p.rgd i (!b)) := by
  obtain ⟨cap, c0⟩ := hT.c0
  obtain ⟨g, cg, evr, hcg, _⟩ := h.rgAt hg
  have hi : i < s.r.rg.length := (List.getElem?_eq_some_iff.1 hg).1
  obtain ⟨n, hnl⟩ : ∃ n, n = s.r.rg.length := ⟨_, rfl⟩
  have c1 := hT.c1
  have c11 := h.b.at_ 11 _ rfl
  rw [evr, ← hnl] at c11
  rw [← hnl] at hi
  have HM := hid h
  have HT := hid hT
  have HEV := hid evr
  have HG := hid hg
  clear h hT hcg evr hg hnl
  go_enter Tryz.func127, Tryz.ntmps127
  go_wp2_with fail
  go_quiet (fail)
  have d11 : (w.drewN nq).cell? ⟨mb, 11, none⟩ = _ := c11
  have d1 : (w.drewN nq).cell? ⟨ca, co + 1, none⟩ = _ := c1
  have ka := Kp.drewN [] w nq
  obtain ⟨wa, hwa⟩ : ∃ wa, wa = w.drewN nq := ⟨_, rfl⟩
  rw [← hwa] at d11 d1 ka ⊢
  clear hwa c0 c1 c11
  go_wp2_with fail
  go_quiet (fail)
  have kb := ka.trans (Kp.drewN [] wa nq)
  obtain ⟨wb, hwb⟩ : ∃ wb, wb = wa.drewN nq := ⟨_, rfl⟩
  rw [← hwb] at kb ⊢
  clear hwb d11 d1 ka
  have hTb := HT.out.keep kb
  have hMb := HM.out.keep kb
  have a4 := hTb.a4
  obtain ⟨g', cg', evr', hcg, _⟩ := hMb.rgAt HG.out
  obtain rfl : g' = g := by rw [HEV.out] at evr'; injection evr' with e _ _; injection e with e; injection e with e; exact e.symm
  clear hTb hMb evr'
  have hk0 : ((kd : Int) == 0) = false := by rw [beq_eq_false_iff_ne]; omega
  go_wp2_with fail
  refine (h1 _ kb).mono ?_
  rintro r wc ⟨rfl, kc⟩
  have kd := kb.trans kc
  have hM := HM.out.keep kd
  obtain ⟨g2, cg2, evr2, hcg2, hfr⟩ := hM.rgAt HG.out
  obtain rfl : g2 = g' := by rw [HEV.out] at evr2; injection evr2 with e _ _; injection e with e; injection e with e; exact e.symm
  have FIN := hid (hM.setRg (i := i) evr2 (!b))
  have fi := hfr i
  clear hM evr2 hfr hcg a4 HM HT
  cases b
  all_goals
    go_wp2_with fail
    go_ret
    obtain ⟨m3, g3⟩ := FIN.out
    exact ⟨rfl, _, rfl, m3, (Gr.of_kp (r := s.r) kd (fun _ e => by cases e)).trans g3⟩

set_option maxRecDepth 100000 in
set_option maxHeartbeats 4000000 in
theorem ranged_off {ca co ap i kd n2 : Nat} {b : Bool} (h : Mac w0 w mb sb db s) (hT : Two w ca co ap i kd n2) (hkd : kd ≠ 0) (hg : s.r.rg[i]? = some false) (h1 : SaysK mb w ap 0 b) :
    Calls Tryz.prog 127 #[.pointer (some ⟨mb, 0, none⟩), .pointer (some ⟨ca, co, none⟩)] w fun r w' => r = .returned (.bool b) ∧ Goes w0 mb sb db w s w' (s.p.rgd i b) := by
  obtain ⟨cap, c0⟩ := hT.c0
  obtain ⟨g, cg, evr, hcg, _⟩ := h.rgAt hg
  have hi : i < s.r.rg.length := (List.getElem?_eq_some_iff.1 hg).1
  obtain ⟨n, hnl⟩ : ∃ n, n = s.r.rg.length := ⟨_, rfl⟩
  have c1 := hT.c1
  have c11 := h.b.at_ 11 _ rfl
  rw [evr, ← hnl] at c11
  rw [← hnl] at hi
  have HM := hid h
  have HT := hid hT
  have HEV := hid evr
  have HG := hid hg
  clear h hT hcg evr hg hnl
  go_enter Tryz.func127, Tryz.ntmps127
  go_wp2_with fail
  go_quiet (fail)
  have d11 : (w.drewN nq).cell? ⟨mb, 11, none⟩ = _ := c11
  have d1 : (w.drewN nq).cell? ⟨ca, co + 1, none⟩ = _ := c1
  have ka := Kp.drewN [] w nq
  obtain ⟨wa, hwa⟩ : ∃ wa, wa = w.drewN nq := ⟨_, rfl⟩
  rw [← hwa] at d11 d1 ka ⊢
  clear hwa c0 c1 c11
  go_wp2_with fail
  go_quiet (fail)
  have kb := ka.trans (Kp.drewN [] wa nq)
  obtain ⟨wb, hwb⟩ : ∃ wb, wb = wa.drewN nq := ⟨_, rfl⟩
  rw [← hwb] at kb ⊢
  clear hwb d11 d1 ka
  have hTb := HT.out.keep kb
  have hMb := HM.out.keep kb
  have a4 := hTb.a4
  obtain ⟨g', cg', evr', hcg, _⟩ := hMb.rgAt HG.out
  obtain rfl : g' = g := by rw [HEV.out] at evr'; injection evr' with e _ _; injection e with e; injection e with e; exact e.symm
  clear hTb hMb evr'
  have hk0 : ((kd : Int) == 0) = false := by rw [beq_eq_false_iff_ne]; omega
  go_wp2_with fail
  refine (h1 _ kb).mono ?_
  rintro r wc ⟨rfl, kc⟩
  have kd := kb.trans kc
  have hM := HM.out.keep kd
  obtain ⟨g2, cg2, evr2, hcg2, hfr⟩ := hM.rgAt HG.out
  obtain rfl : g2 = g' := by rw [HEV.out] at evr2; injection evr2 with e _ _; injection e with e; injection e with e; exact e.symm
  have FIN := hid (hM.setRg (i := i) evr2 b)
  have fi := hfr i
  clear hM evr2 hfr hcg a4 HM HT
  cases b
  all_goals
    go_wp2_with fail
    go_ret
    obtain ⟨m3, g3⟩ := FIN.out
    exact ⟨rfl, _, rfl, m3, (Gr.of_kp (r := s.r) kd (fun _ e => by cases e)).trans g3⟩
end
end Go.Proofs.YtonnimbcekhbgaaGreatDoor
