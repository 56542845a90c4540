/- The machine: cycles, and what some commands do. -/
import Derived.Test.YtonnimbcekhbgaaGreatDoorEU
import Derived.Deep.RegionWith
namespace Go.Proofs.YtonnimbcekhbgaaGreatDoor
open Go.RowKit

theorem run_store1 {P : Program} {w : World} {a : Addr} {u v : Value} (hu : w.cell? a = some u) (hf : w.frozen? a = false) (h1 : v.oneCell' = true) : (store a v).run P w = .ok () (w.setCell a v) := by
  rw [run_store P w a v _ h1]; simp [hu, hf]

section
variable {w0 w w' w2 : World} {mb sb db lo hi : Nat} {s s' : Mst} {p p' : Pst} {σ : Sst}

/-- There is room for a text. -/
structure Room (s : Mst) (t : ByteArray) : Prop where
  room : s.count + t.size + 1 ≤ 200000
  out : s.r.out.length ≤ s.count
  br : s.r.br = []

abbrev bwV : Value := .func (.func 29) #[] #[]
def Pst.tellEnd (q : Bool) (p : Pst) : Pst := if q then p else p.tell p.space
def Pst.endCycle (q : Bool) (p : Pst) : Pst := { p.tellEnd q with wants := bwV }
def Pst.dropCycle (p : Pst) : Pst := { p with wants := bwV }
def Pst.endAll (q : Bool) (st : Nat) (p : Pst) : Pst := { p.endCycle q with over := true, status := st }
def Pst.begin (sp : ByteArray) (p : Pst) : Pst := { p with space := sp, pc := 0, repl := false }
def Pst.beginWith (l : ByteArray) (p : Pst) : Pst := { p with steps := 0, space := l, pc := 0, repl := false }

theorem Goes.then {p2 : Pst} (g : Goes w0 mb sb db w s w' p) (k : ∀ s', s'.p = p → Mac w0 w' mb sb db s' → Goes w0 mb sb db w' s' w2 p2) : Goes w0 mb sb db w s w2 p2 := by
  obtain ⟨s1, h1, m1, g1⟩ := g
  obtain ⟨s2, h2, m2, g2⟩ := k s1 h1 m1
  exact ⟨s2, h2, m2, g1.trans g2⟩

set_option maxRecDepth 100000 in
set_option maxHeartbeats 1000000 in
theorem tellEnd_v (h : Mac w0 w mb sb db s) (hs : Scr lo hi w0 sb 0 σ) (hr : Room s s.space) :
    Calls Tryz.prog 92 #[.pointer (some ⟨mb, 0, none⟩)] w fun r w' => r = .returned (.tuple #[]) ∧ Goes w0 mb sb db w s w' (s.p.tellEnd σ.quiet) := by
  have hq := (hs.keep h.r.kp (fun _ e => by cases e)).c0
  have c0 := h.b.at_ 0 _ rfl
  have c9 := h.b.at_ 9 _ rfl
  have hbr := hr.br
  cases hqq : σ.quiet
  · rw [hqq] at hq
    have HT := hid (tell_v (h.keep (Kp.drew [] w)) hr.room hr.out)
    go_enter Tryz.func92, Tryz.ntmps92
    go_wp2_with fail
    go_region_with (go_at_call 82; refine HT.out.mono ?_; rintro r w1 ⟨rfl, g1⟩)
    go_wp2_with fail
    obtain ⟨s1, e1, m1, gr1⟩ := g1
    have hb1 : s1.r.br = [] := by
      have := congrArg Pst.br e1
      exact this.trans hbr
    refine (tellBrought_none m1 hb1).mono ?_
    rintro r w2 ⟨rfl, s2, e2, m2, gr2⟩
    go_wp2_with fail
    go_end0
    exact ⟨rfl, s2, e2.trans e1, m2, (Gr.of_kp (Kp.drew [] w) (fun _ e => by cases e)).trans (gr1.trans gr2)⟩
  · rw [hqq] at hq
    go_enter Tryz.func92, Tryz.ntmps92
    go_wp2_with fail
    refine (tellBrought_none h hbr).mono ?_
    rintro r w2 ⟨rfl, g2⟩
    go_wp2_with fail
    go_end0
    exact ⟨rfl, g2⟩

set_option maxRecDepth 100000 in
set_option maxHeartbeats 1000000 in
theorem endCycle_v (h : Mac w0 w mb sb db s) (hs : Scr lo hi w0 sb 0 σ) (hr : Room s s.space) :
    Calls Tryz.prog 98 #[.pointer (some ⟨mb, 0, none⟩)] w fun r w' => r = .returned (.tuple #[]) ∧ Goes w0 mb sb db w s w' (s.p.endCycle σ.quiet) := by
  go_enter Tryz.func98, Tryz.ntmps98
  go_wp2_with fail
  refine (tellEnd_v h hs hr).mono ?_
  rintro r w1 ⟨rfl, s1, e1, m1, gr1⟩
  have c12 := m1.b.at_ 12 _ rfl
  have f12 := m1.b.free 12
  have hst := run_store1 (P := Tryz.prog) (v := bwV) c12 f12 rfl
  go_wp2_with fail
  go_end0
  refine ⟨rfl, { s1 with wants := bwV }, ?_, m1.set 12 bwV (by omega) rfl rfl, gr1.trans (Gr.set _ _ _ _)⟩
  show ({ s1.p with wants := bwV } : Pst) = _
  rw [e1]
  rfl

set_option maxRecDepth 100000 in
set_option maxHeartbeats 1000000 in
theorem dropCycle_v (h : Mac w0 w mb sb db s) (hb : s.r.br = []) :
    Calls Tryz.prog 83 #[.pointer (some ⟨mb, 0, none⟩)] w fun r w' => r = .returned (.tuple #[]) ∧ Goes w0 mb sb db w s w' s.p.dropCycle := by
  go_enter Tryz.func83, Tryz.ntmps83
  go_wp2_with fail
  refine (tellBrought_none h hb).mono ?_
  rintro r w1 ⟨rfl, s1, e1, m1, gr1⟩
  have c12 := m1.b.at_ 12 _ rfl
  have f12 := m1.b.free 12
  have hst := run_store1 (P := Tryz.prog) (v := bwV) c12 f12 rfl
  go_wp2_with fail
  go_end0
  refine ⟨rfl, { s1 with wants := bwV }, ?_, m1.set 12 bwV (by omega) rfl rfl, gr1.trans (Gr.set _ _ _ _)⟩
  show ({ s1.p with wants := bwV } : Pst) = _
  rw [e1]
  rfl

set_option maxRecDepth 100000 in
set_option maxHeartbeats 1000000 in
theorem endAll_v {st : Nat} (h : Mac w0 w mb sb db s) (hs : Scr lo hi w0 sb 0 σ) (hr : Room s s.space) :
    Calls Tryz.prog 91 #[.pointer (some ⟨mb, 0, none⟩), .int .i64 st] w fun r w' => r = .returned (.tuple #[]) ∧ Goes w0 mb sb db w s w' (s.p.endAll σ.quiet st) := by
  go_enter Tryz.func91, Tryz.ntmps91
  go_wp2_with fail
  refine (endCycle_v h hs hr).mono ?_
  rintro r w1 ⟨rfl, s1, e1, m1, gr1⟩
  have c17 := m1.b.at_ 17 _ rfl
  have f17 := m1.b.free 17
  have c19 := m1.b.at_ 19 _ rfl
  have f19 := m1.b.free 19
  go_wp2_with fail
  go_end0
  have m2 := m1.set (s' := { s1 with over := true }) 17 (.bool true) (by omega) rfl rfl
  have m3 := m2.set (s' := { s1 with over := true, status := st }) 19 (.int .i64 st) (by omega) rfl rfl
  refine ⟨rfl, _, ?_, m3, gr1.trans ((Gr.set _ _ _ _).trans (Gr.set _ _ _ _))⟩
  show ({ s1.p with over := true, status := st } : Pst) = _
  rw [e1]
  rfl

set_option maxRecDepth 100000 in
set_option maxHeartbeats 1000000 in
theorem begin_v {sp : ByteArray} (h : Mac w0 w mb sb db s) :
    Calls Tryz.prog 60 #[.pointer (some ⟨mb, 0, none⟩), .string sp] w fun r w' => r = .returned (.tuple #[]) ∧ Goes w0 mb sb db w s w' (s.p.begin sp) := by
  have c9 := h.b.at_ 9 _ rfl
  have f9 := h.b.free 9
  have c13 := h.b.at_ 13 _ rfl
  have f13 := h.b.free 13
  have c15 := h.b.at_ 15 _ rfl
  have f15 := h.b.free 15
  go_enter Tryz.func60, Tryz.ntmps60
  go_wp2_with fail
  go_end0
  have m1 := h.set (s' := { s with space := sp }) 9 (.string sp) (by omega) rfl rfl
  have m2 := m1.set (s' := { s with space := sp, pc := 0 }) 13 (.int .i64 0) (by omega) rfl rfl
  have m3 := m2.set (s' := { s with space := sp, pc := 0, repl := false }) 15 (.bool false) (by omega) rfl rfl
  exact ⟨rfl, _, rfl, m3, (Gr.set _ _ _ _).trans ((Gr.set _ _ _ _).trans (Gr.set _ _ _ _))⟩

set_option maxRecDepth 100000 in
set_option maxHeartbeats 1000000 in
theorem beginWith_v {sp : ByteArray} (h : Mac w0 w mb sb db s) :
    Calls Tryz.prog 29 #[.pointer (some ⟨mb, 0, none⟩), .string sp] w fun r w' => r = .returned (.tuple #[]) ∧ Goes w0 mb sb db w s w' (s.p.beginWith sp) := by
  have c14 := h.b.at_ 14 _ rfl
  have f14 := h.b.free 14
  have m1 := h.set (s' := { s with steps := 0 }) 14 (.int .i64 0) (by omega) rfl rfl
  go_enter Tryz.func29, Tryz.ntmps29
  go_wp2_with fail
  refine (begin_v m1).mono ?_
  rintro r w1 ⟨rfl, s1, e1, m1, gr1⟩
  go_wp2_with fail
  go_end0
  exact ⟨rfl, s1, e1, m1, (Gr.set _ _ _ _).trans gr1⟩

set_option maxRecDepth 100000 in
set_option maxHeartbeats 1000000 in
theorem print_v {cp : Value} (h : Mac w0 w mb sb db s) (hr : Room s s.space) :
    Calls Tryz.prog 53 #[.pointer (some ⟨mb, 0, none⟩), cp] w fun r w' => r = .returned (.tuple #[]) ∧ Goes w0 mb sb db w s w' (s.p.tell s.space) := by
  have c9 := h.b.at_ 9 _ rfl
  have HT := hid (tell_v (h.keep (Kp.drew [] w)) hr.room hr.out)
  go_enter Tryz.func53, Tryz.ntmps53
  go_wp2_with fail
  go_region_with (go_at_call 82; refine HT.out.mono ?_; rintro r w1 ⟨rfl, g1⟩)
  go_wp2_with fail
  go_end0
  exact ⟨rfl, g1.pre (Kp.drew [] w)⟩

set_option maxRecDepth 100000 in
set_option maxHeartbeats 1000000 in
theorem drop_v {cp : Value} (h : Mac w0 w mb sb db s) (hb : s.r.br = []) :
    Calls Tryz.prog 44 #[.pointer (some ⟨mb, 0, none⟩), cp] w fun r w' => r = .returned (.tuple #[]) ∧ Goes w0 mb sb db w s w' s.p.dropCycle := by
  go_enter Tryz.func44, Tryz.ntmps44
  go_wp2_with fail
  refine (dropCycle_v h hb).mono ?_
  rintro r w1 ⟨rfl, g1⟩
  go_wp2_with fail
  go_end0
  exact ⟨rfl, g1⟩

set_option maxRecDepth 100000 in
set_option maxHeartbeats 1000000 in
theorem quit_v {ca st : Nat} {co : Nat} (h : Mac w0 w mb sb db s) (hs : Scr lo hi w0 sb 0 σ) (hr : Room s s.space) (hc : w.cell? ⟨ca, co + 8, none⟩ = some (.int .i64 st)) :
    Calls Tryz.prog 57 #[.pointer (some ⟨mb, 0, none⟩), .pointer (some ⟨ca, co, none⟩)] w fun r w' => r = .returned (.tuple #[]) ∧ Goes w0 mb sb db w s w' (s.p.endAll σ.quiet st) := by
  go_enter Tryz.func57, Tryz.ntmps57
  go_wp2_with fail
  refine (endAll_v h hs hr).mono ?_
  rintro r w1 ⟨rfl, g1⟩
  go_wp2_with fail
  go_end0
  exact ⟨rfl, g1⟩

set_option maxRecDepth 100000 in
set_option maxHeartbeats 1000000 in
theorem tellNumber_v {cp : Value} (h : Mac w0 w mb sb db s) (hn : s.number < 100) (hr : Room s ⟨(Lib.decDigits s.number).toArray⟩) :
    Calls Tryz.prog 56 #[.pointer (some ⟨mb, 0, none⟩), cp] w fun r w' => r = .returned (.tuple #[]) ∧ Goes w0 mb sb db w s w' (s.p.tell ⟨(Lib.decDigits s.number).toArray⟩) := by
  have c8 := h.b.at_ 8 _ rfl
  have HT := hid (tell_v (h.keep (Kp.drew [] w)) hr.room hr.out)
  have HI := hid (itoa_k s.number hn w.drew)
  go_enter Tryz.func56, Tryz.ntmps56
  go_wp2_with fail
  go_region_with (first | (go_at_call 82; refine HT.out.mono ?_; rintro r w1 ⟨rfl, g1⟩) | (go_at_call 96; refine HI.out.mono ?_; rintro r w1 ⟨rfl, rfl⟩))
  go_wp2_with fail
  go_end0
  exact ⟨rfl, g1.pre (Kp.drew [] w)⟩
end
end Go.Proofs.YtonnimbcekhbgaaGreatDoor
