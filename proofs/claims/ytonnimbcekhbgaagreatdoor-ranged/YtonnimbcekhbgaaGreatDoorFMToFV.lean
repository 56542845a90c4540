/- One text out of several: FM FV. -/
import Derived.Test.YtonnimbcekhbgaaGreatDoorFKToFL
import Derived.Test.YtonnimbcekhbgaaGreatDoorEL

/- What w does. -/
namespace Go.Proofs.YtonnimbcekhbgaaGreatDoor
open Go.RowKit

section
variable {w0 w w' : World} {mb sb db lo hi : Nat} {s s' : Mst} {σ : Sst}

/-- A command without an address is done; what it holds is known. -/
theorem look_holds {p p3 : Pst} {c : List Value} {x i f : Nat} (hs : Scr lo hi w0 sb 0 σ) (hc : σ.cs[p.pc]? = some c) (hP : Plain c x)
    (ht : Instr.findNow (.int .u8) (.int .u8 x) (tabE 0 deedsL) 0 = some (some (i, .func (.func f) #[] #[]))) (hst : p.steps < 2000) (hpc : p.pc < 2000) (hen : Enters f)
    (hD : ∀ w2 s2 g, Mac w0 w2 mb sb db s2 → s2.p = p.on → (∀ j u, c[j]? = some u → w2.cell? ⟨g, p.pc * 23 + j, none⟩ = some u) → Calls Tryz.prog f #[.pointer (some ⟨mb, 0, none⟩), .pointer (some ⟨g, p.pc * 23, none⟩)] w2 fun r w' => r = .returned (.tuple #[]) ∧ Goes w0 mb sb db w2 s2 w' p3) : Look w0 mb sb db p p3 := fun w s hM hp => by
  have e1 : s.pc = p.pc := congrArg Pst.pc hp
  have e2 : s.steps = p.steps := congrArg Pst.steps hp
  obtain ⟨A, ca, h0⟩ := hP.c0
  obtain ⟨g, cap, hv, _⟩ := hs.cmd hc
  have key : ∀ wx, Kp [] w0 wx → ∀ j u, c[j]? = some u → wx.cell? ⟨g, p.pc * 23 + j, none⟩ = some u := fun wx kx => by
    obtain ⟨g', cap', hv', hcell⟩ := (hs.keep kx (fun _ e => by cases e)).cmd hc
    obtain rfl : g' = g := by rw [hv] at hv'; injection hv' with e _ _; injection e with e; injection e with e; exact e.symm
    exact hcell
  refine look_do (b := true) (p2 := p.on) hM hs (by rw [e1]; exact hc) hv hP.c3 hP.c2 ht (by omega) (by omega) hen (fun w1 s1 m1 q1' => ?_) rfl (fun w2 s2 m2 q2 => by rw [e1]; exact hD w2 s2 g m2 q2 (key w2 m2.r.kp))
  have e3 : s1.p = p.on := by rw [q1', hp, e1, e2]; rfl
  rw [← e3, e1]
  exact addressed_none m1 (key _ m1.r.kp 0 _ h0)

theorem enters_w : Enters 58 := by intro p q w; simp [go_sem]
theorem deed_w : Instr.findNow (.int .u8) (.int .u8 ((119 : Nat) : Int)) (tabE 0 deedsL) 0 = some (some (22, .func (.func 58) #[] #[])) := by kernel_rfl

theorem look_write {p : Pst} {c : List Value} {i F : Nat} (hs : Scr lo hi w0 sb 0 σ) (hc : σ.cs[p.pc]? = some c) (hP : Plain c 119) (h7 : c[7]? = some (.int .i64 i)) (hi : i < F) (hst : p.steps < 2000) (hpc : p.pc < 2000) (h1 : p.count + p.space.size + 1 ≤ 200000) (hf : Fbs F p) : Look w0 mb sb db p (p.on.write i p.space) := by
  refine look_holds hs hc hP deed_w hst hpc enters_w (fun w2 s2 g m2 e2 hcell => ?_)
  have es : s2.space = p.space := congrArg Pst.space e2
  have ef : s2.r.fb = p.fb := congrArg Pst.fb e2
  have ec : s2.count = p.count := congrArg Pst.count e2
  have hl := m2.r.fll
  have hb : i < s2.r.fb.length := by rw [ef, hf.len]; exact hi
  have hfl : i < s2.r.fl.length := by rw [← hl]; exact hb
  have := writeSpace_v m2 (hcell 7 _ h7) (List.getElem?_eq_getElem hfl) (List.getElem?_eq_getElem hb) (by rw [es, ec]; exact h1) (by rw [ec]; exact hf.le i _ (by rw [← ef]; exact List.getElem?_eq_getElem hb))
  rw [e2, es] at this
  exact this

theorem does_write {c c2 : List Value} (hc : σ.cs = [c, c2]) (hq : σ.quiet = true) (hP : Plain c 112) (hW : Plain c2 119) (h7 : c2[7]? = some (.int .i64 ((0 : Nat) : Int))) (hns : 0 < σ.ns.length) : Does σ (fun _ L => L ++ [10]) (fun _ L => 2 * (L.length + 1)) := by
  intro w0 mb sb db lo hi hs p k L hb hk hL hn
  have hz : p.space.size = L.length := by rw [hb.space, ba_size]
  have hd : p.space.data.toList = L := by rw [hb.space, ba_list]
  have o := hb.out
  have hn' : p.count + 2 * (L.length + 1) ≤ 190000 := hn
  have f1 : Fbs σ.ns.length (p.on.tell p.space) := hb.fb.up rfl (by show p.count ≤ p.count + p.space.size + 1; omega)
  have f2 : Fbs σ.ns.length ((p.on.tell p.space).on.write 0 p.space) := by
    have hl0 := hb.fb.len
    obtain ⟨bs, hbs⟩ : ∃ bs, p.fb[0]? = some bs := ⟨_, List.getElem?_eq_getElem (show 0 < p.fb.length by omega)⟩
    have hle := hb.fb.le 0 bs hbs
    refine ⟨?_, fun i b' h => ?_⟩
    · show (p.fb.set 0 _).length = _
      rw [List.length_set]; exact hl0
    · show b'.length ≤ p.count + p.space.size + 1 + p.space.size + 1
      replace h : (p.fb.set 0 (p.fb[0]?.getD [] ++ p.space.data.toList ++ [10]))[i]? = some b' := h
      rw [hbs] at h
      by_cases e : i = 0
      · subst e
        rw [List.getElem?_set_self (by omega)] at h
        injection h with h
        rw [← h, hd, hz]
        show (bs ++ L ++ [10]).length ≤ _
        simp; omega
      · rw [List.getElem?_set_ne (Ne.symm e)] at h
        have := hb.fb.le i b' h
        omega
  have o2 : (p.out ++ p.space.data.toList ++ [10]).length ≤ p.count + p.space.size + 1 + p.space.size + 1 := by rw [hd, hz]; simp; omega
  refine ⟨((p.on.tell p.space).on.write 0 p.space).endCycle σ.quiet, .more (look_print hs (by rw [hb.pc, hc]; rfl) hP (by rw [hb.steps]; omega) (by rw [hb.pc]; omega) (by omega) hb.out hb.br) hb.over hb.wants (.more (look_write (F := σ.ns.length) hs (by rw [hc]; show [c, c2][p.pc + 1]? = _; rw [hb.pc]; rfl) hW h7 hns (by show p.steps + 1 < 2000; rw [hb.steps]; omega) (by show p.pc + 1 < 2000; rw [hb.pc]; omega) (by show p.count + p.space.size + 1 + p.space.size + 1 ≤ _; omega) f1) hb.over hb.wants (.last (look_ends hs (by show p.pc + 1 + 1 = _; rw [hb.pc, hc]; rfl) (by show p.count + p.space.size + 1 + p.space.size + 1 + p.space.size + 1 ≤ _; omega) o2 hb.br))), ?_⟩
  rw [hq]
  refine ⟨⟨rfl, hb.over, hb.err, hb.status, hb.ahead, hb.br, o2, f2.up rfl (Nat.le_refl _)⟩, rfl, rfl, rfl, ?_, ?_⟩
  · show p.out ++ p.space.data.toList ++ [10] = _
    rw [hd]; simp
  · show p.count + p.space.size + 1 + p.space.size + 1 = p.count + 2 * (L.length + 1)
    rw [hz]; omega
end
end Go.Proofs.YtonnimbcekhbgaaGreatDoor

/- The script's reader: parts between slashes. -/
namespace Go.Proofs.YtonnimbcekhbgaaGreatDoor
open Go.RowKit

section
variable {w w' : World} {b k : Nat} {src : ByteArray}

set_option maxHeartbeats 400000 in
theorem stay_v (hr : Cur w b src k) (hk : k < src.size) (h10 : saw src k 10 = false) :
    Calls Tryz.prog 131 #[.pointer (some ⟨b, 0, none⟩)] w fun e w' => e = .returned (.tuple #[]) ∧ Cur w' b src k ∧ Mv b w w' := by
  have he : ((k : Int) == (src.size : Int)) = false := by simp; omega
  have H := hid h10
  clear h10
  go_enter Tryz.func131, Tryz.ntmps131
  go_wp2_with fail
  refine (ended_v hr he).mono ?_
  rintro e w1 ⟨rfl, h1, m1⟩
  go_wp2_with fail
  refine (sees_v 10 h1 H.out).mono ?_
  rintro e w2 ⟨rfl, h2, m2⟩
  go_wp2_with fail
  go_end0
  exact ⟨rfl, h2, m1.trans m2⟩

set_option maxHeartbeats 400000 in
theorem shut_v (hr : Cur w b src k) (hk : k < src.size) (h10 : saw src k 10 = false) {v : Bool} (h : saw src k 47 = v) :
    Calls Tryz.prog 130 #[.pointer (some ⟨b, 0, none⟩)] w fun e w' => e = .returned (.bool v) ∧ Cur w' b src (if v then k + 1 else k) ∧ Mv b w w' := by
  have H := hid h
  clear h
  go_enter Tryz.func130, Tryz.ntmps130
  go_wp2_with fail
  refine (stay_v hr hk h10).mono ?_
  rintro e w1 ⟨rfl, h1, m1⟩
  have T := hid (take_v 47 h1 H.out)
  cases v
  all_goals
    go_wp2_with fail
    refine T.out.mono ?_
    rintro e w2 ⟨rfl, h2, m2⟩
    go_wp2_with fail
    go_ret
    exact ⟨rfl, h2, m1.trans m2⟩

set_option maxHeartbeats 1000000 in
theorem part_v {x : UInt8} (esc : ByteArray) (hr : Cur w b src k) (hk : k < src.size) (hx : src[k] = x) (h : saw src k 92 = false) :
    Calls Tryz.prog 105 #[.pointer (some ⟨b, 0, none⟩), .string esc] w fun e w' => e = .returned (.int .u8 (x.toNat : Nat)) ∧ Cur w' b src (k + 1) ∧ Mv b w w' := by
  have H := hid h
  have hsm := hr.small
  have HX := hid hx
  clear h hx
  go_enter Tryz.func105, Tryz.ntmps105
  go_wp2_with fail
  refine (sees_v 92 hr H.out).mono ?_
  rintro e w1 ⟨rfl, h1, m1⟩
  have c1 := h1.c1
  have f1 := h1.free 1
  have s2 := h1.step hk
  have m2 := m1.trans (Mv.step b w1 (.int .i64 ((k : Int) + 1)))
  obtain ⟨v1, hv1⟩ : ∃ v1 : Int, v1 = (k : Int) + 1 := ⟨_, rfl⟩
  rw [← hv1] at s2 m2
  obtain ⟨w2, hw2⟩ : ∃ w2, w2 = w1.setCell ⟨b, 1, none⟩ (.int .i64 v1) := ⟨_, rfl⟩
  rw [← hw2] at s2 m2
  have d0 := s2.c0
  have d1 := s2.c1
  have e1 : ((k + 1 : Nat) : Int) - 1 = (k : Int) := by omega
  have wk := wrap_i64_nat k (by omega)
  have c5 : (⟨src.data⟩ : ByteArray)[k] = x := HX.out
  obtain ⟨k1, hk1⟩ : ∃ k1, k1 = k + 1 := ⟨_, rfl⟩
  rw [← hk1] at d1 e1
  clear hk1
  go_upto_region 3 with fail
  rw [← hv1, ← hw2]
  clear hw2 c1 f1
  go_quiet (fail)
  go_wp2_with fail
  go_ret
  exact ⟨rfl, s2.drewN _, m2.trans (Mv.drewN _ _ _)⟩
end
end Go.Proofs.YtonnimbcekhbgaaGreatDoor
