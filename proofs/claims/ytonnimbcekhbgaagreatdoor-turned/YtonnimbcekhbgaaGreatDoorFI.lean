/- What some scripts do with lines: nothing, p, =, d. -/
import Derived.Test.YtonnimbcekhbgaaGreatDoorFH
namespace Go.Proofs.YtonnimbcekhbgaaGreatDoor
open Go.RowKit

section
variable {w0 w w' : World} {mb sb db lo hi : Nat} {s s' : Mst} {σ : Sst}

/-- A command without an address. -/
structure Plain (c : List Value) (x : Nat) : Prop where
  c3 : c[3]? = some (.int .u8 x)
  c2 : c[2]? = some (.bool false)
  c0 : ∃ A ca, c[0]? = some (.slice A 0 ca)

def Pst.on (p : Pst) : Pst := { p with pc := p.pc + 1, steps := p.steps + 1 }

theorem enters_p : Enters 53 := by intro p q w; simp [go_sem]
theorem enters_n : Enters 56 := by intro p q w; simp [go_sem]
theorem enters_d : Enters 44 := by intro p q w; simp [go_sem]
theorem enters_q : Enters 57 := by intro p q w; simp [go_sem]
theorem deed_p : Instr.findNow (.int .u8) (.int .u8 ((112 : Nat) : Int)) (tabE 0 deedsL) 0 = some (some (17, .func (.func 53) #[] #[])) := by kernel_rfl
theorem deed_n : Instr.findNow (.int .u8) (.int .u8 ((61 : Nat) : Int)) (tabE 0 deedsL) 0 = some (some (20, .func (.func 56) #[] #[])) := by kernel_rfl
theorem deed_d : Instr.findNow (.int .u8) (.int .u8 ((100 : Nat) : Int)) (tabE 0 deedsL) 0 = some (some (8, .func (.func 44) #[] #[])) := by kernel_rfl
theorem deed_q : Instr.findNow (.int .u8) (.int .u8 ((113 : Nat) : Int)) (tabE 0 deedsL) 0 = some (some (21, .func (.func 57) #[] #[])) := by kernel_rfl

theorem look_print {p : Pst} {c : List Value} (hs : Scr lo hi w0 sb 0 σ) (hc : σ.cs[p.pc]? = some c) (hP : Plain c 112) (hst : p.steps < 2000) (hpc : p.pc < 2000) (h1 : p.count + p.space.size + 1 ≤ 200000) (h2 : p.out.length ≤ p.count) (h3 : p.br = []) : Look w0 mb sb db p (p.on.tell p.space) := by
  obtain ⟨A, ca, h0⟩ := hP.c0
  refine look_does hs hc hP.c3 hP.c2 h0 deed_p hst hpc enters_p (fun w2 s2 g m2 e2 => ?_)
  have es : s2.space = p.space := congrArg Pst.space e2
  have := print_v (cp := .pointer (some ⟨g, p.pc * 23, none⟩)) m2 (room_of e2 (by rw [es]; exact h1) h2 h3)
  rw [e2, es] at this
  exact this
theorem look_number {p : Pst} {c : List Value} (hs : Scr lo hi w0 sb 0 σ) (hc : σ.cs[p.pc]? = some c) (hP : Plain c 61) (hst : p.steps < 2000) (hpc : p.pc < 2000) (hn : p.number < 100) (h1 : p.count + (Lib.decDigits p.number).length + 1 ≤ 200000) (h2 : p.out.length ≤ p.count) (h3 : p.br = []) : Look w0 mb sb db p (p.on.tell ⟨(Lib.decDigits p.number).toArray⟩) := by
  obtain ⟨A, ca, h0⟩ := hP.c0
  refine look_does hs hc hP.c3 hP.c2 h0 deed_n hst hpc enters_n (fun w2 s2 g m2 e2 => ?_)
  have es : s2.number = p.number := congrArg Pst.number e2
  have := tellNumber_v (cp := .pointer (some ⟨g, p.pc * 23, none⟩)) m2 (by rw [es]; exact hn) (room_of e2 (by rw [es]; exact h1) h2 h3)
  rw [e2, es] at this
  exact this
theorem look_drop {p : Pst} {c : List Value} (hs : Scr lo hi w0 sb 0 σ) (hc : σ.cs[p.pc]? = some c) (hP : Plain c 100) (hst : p.steps < 2000) (hpc : p.pc < 2000) (h3 : p.br = []) : Look w0 mb sb db p p.on.dropCycle := by
  obtain ⟨A, ca, h0⟩ := hP.c0
  refine look_does hs hc hP.c3 hP.c2 h0 deed_d hst hpc enters_d (fun w2 s2 g m2 e2 => ?_)
  have := drop_v (cp := .pointer (some ⟨g, p.pc * 23, none⟩)) m2 ((congrArg Pst.br e2).trans h3)
  rw [e2] at this
  exact this

theorem does_none (hc : σ.cs = []) : Does σ (fun _ L => if σ.quiet then [] else L ++ [10]) (fun _ L => if σ.quiet then 0 else L.length + 1) := by
  intro w0 mb sb db lo hi hs p k L hb hk hL hn
  have hz : p.space.size = L.length := by rw [hb.space, ba_size]
  have hd : p.space.data.toList = L := by rw [hb.space]; simp [ba]
  have hct : p.count ≤ 190000 := Nat.le_trans (Nat.le_add_right _ _) hn
  have o := hb.out
  refine ⟨p.endCycle σ.quiet, .last (look_ends hs (by rw [hb.pc, hc]; rfl) (by omega) hb.out hb.br), ?_⟩
  cases hq : σ.quiet
  · refine ⟨⟨rfl, hb.over, hb.err, hb.status, hb.ahead, hb.br, ?_, hb.fb.up rfl (by show p.count ≤ p.count + p.space.size + 1; omega)⟩, rfl, rfl, rfl, ?_, ?_⟩
    · show (p.out ++ p.space.data.toList ++ [10]).length ≤ p.count + p.space.size + 1
      rw [hd, hz]; simp; omega
    · show p.out ++ p.space.data.toList ++ [10] = _
      rw [hd]; simp
    · show p.count + p.space.size + 1 = _
      rw [hz]; simp; omega
  · exact ⟨⟨rfl, hb.over, hb.err, hb.status, hb.ahead, hb.br, o, hb.fb.up rfl (Nat.le_refl _)⟩, rfl, rfl, rfl, by show p.out = _; simp, by show p.count = _; simp⟩

theorem does_print {c : List Value} (hc : σ.cs = [c]) (hq : σ.quiet = false) (hP : Plain c 112) : Does σ (fun _ L => L ++ [10] ++ (L ++ [10])) (fun _ L => 2 * (L.length + 1)) := by
  intro w0 mb sb db lo hi hs p k L hb hk hL hn
  have hz : p.space.size = L.length := by rw [hb.space, ba_size]
  have hd : p.space.data.toList = L := by rw [hb.space]; simp [ba]
  have o := hb.out
  have o2 : (p.out ++ p.space.data.toList ++ [10]).length ≤ p.count + p.space.size + 1 := by rw [hd, hz]; simp; omega
  refine ⟨(p.on.tell p.space).endCycle σ.quiet, .more (look_print hs (by rw [hb.pc, hc]; rfl) hP (by rw [hb.steps]; omega) (by rw [hb.pc]; omega) (by omega) hb.out hb.br) hb.over hb.wants (.last (look_ends hs (by show p.pc + 1 = _; rw [hb.pc, hc]; rfl) (by show p.count + p.space.size + 1 + p.space.size + 1 ≤ _; omega) o2 hb.br)), ?_⟩
  rw [hq]
  refine ⟨⟨rfl, hb.over, hb.err, hb.status, hb.ahead, hb.br, ?_, hb.fb.up rfl (by show p.count ≤ p.count + p.space.size + 1 + p.space.size + 1; omega)⟩, rfl, rfl, rfl, ?_, ?_⟩
  · show (p.out ++ p.space.data.toList ++ [10] ++ p.space.data.toList ++ [10]).length ≤ p.count + p.space.size + 1 + p.space.size + 1
    rw [hd, hz]; simp; omega
  · show p.out ++ p.space.data.toList ++ [10] ++ p.space.data.toList ++ [10] = _
    rw [hd]; simp
  · show p.count + p.space.size + 1 + p.space.size + 1 = p.count + 2 * (L.length + 1)
    rw [hz]; omega

theorem does_number {c : List Value} (hc : σ.cs = [c]) (hq : σ.quiet = false) (hP : Plain c 61) : Does σ (fun k L => Lib.decDigits k ++ [10] ++ (L ++ [10])) (fun k L => (Lib.decDigits k).length + 1 + (L.length + 1)) := by
  intro w0 mb sb db lo hi hs p k L hb hk hL hn
  have hz : p.space.size = L.length := by rw [hb.space, ba_size]
  have hd : p.space.data.toList = L := by rw [hb.space]; simp [ba]
  have hnum := hb.number
  have o := hb.out
  have o2 : (p.out ++ Lib.decDigits p.number ++ [10]).length ≤ p.count + (Lib.decDigits p.number).length + 1 := by simp; omega
  have hn' : p.count + ((Lib.decDigits p.number).length + 1 + (L.length + 1)) ≤ 190000 := by rw [hnum]; exact hn
  refine ⟨(p.on.tell ⟨(Lib.decDigits p.number).toArray⟩).endCycle σ.quiet, .more (look_number hs (by rw [hb.pc, hc]; rfl) hP (by rw [hb.steps]; omega) (by rw [hb.pc]; omega) (by omega) (by omega) hb.out hb.br) hb.over hb.wants (.last (look_ends hs (by show p.pc + 1 = _; rw [hb.pc, hc]; rfl) (by show p.count + (Lib.decDigits p.number).toArray.size + 1 + p.space.size + 1 ≤ _; simp; omega) (by show (p.out ++ (Lib.decDigits p.number).toArray.toList ++ [10]).length ≤ p.count + (Lib.decDigits p.number).toArray.size + 1; simp; omega) hb.br)), ?_⟩
  rw [hq]
  refine ⟨⟨rfl, hb.over, hb.err, hb.status, hb.ahead, hb.br, ?_, hb.fb.up rfl (by show p.count ≤ p.count + (Lib.decDigits p.number).toArray.size + 1 + p.space.size + 1; omega)⟩, rfl, rfl, rfl, ?_, ?_⟩
  · show (p.out ++ (Lib.decDigits p.number).toArray.toList ++ [10] ++ p.space.data.toList ++ [10]).length ≤ p.count + (Lib.decDigits p.number).toArray.size + 1 + p.space.size + 1
    rw [hd, hz]; simp; omega
  · show p.out ++ (Lib.decDigits p.number).toArray.toList ++ [10] ++ p.space.data.toList ++ [10] = _
    rw [hd, hnum]; simp
  · show p.count + (Lib.decDigits p.number).toArray.size + 1 + p.space.size + 1 = _
    rw [hz, hnum]; simp; omega

theorem does_drop {c : List Value} (hc : σ.cs = [c]) (hP : Plain c 100) : Does σ (fun _ _ => []) (fun _ _ => 0) := by
  intro w0 mb sb db lo hi hs p k L hb hk hL hn
  refine ⟨p.on.dropCycle, .last (look_drop hs (by rw [hb.pc, hc]; rfl) hP (by rw [hb.steps]; omega) (by rw [hb.pc]; omega) hb.br), ⟨⟨rfl, hb.over, hb.err, hb.status, hb.ahead, hb.br, hb.out, hb.fb.up rfl (Nat.le_refl _)⟩, rfl, rfl, rfl, by show p.out = _; simp, by show p.count = _; simp⟩⟩
end
end Go.Proofs.YtonnimbcekhbgaaGreatDoor
