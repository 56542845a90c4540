/- The machine: how it tells, ends and begins a cycle. -/
import Derived.Test.YtonnimbcekhbgaaGreatDoorET
namespace Go.Proofs.YtonnimbcekhbgaaGreatDoor
open Go.RowKit

/-- The machine's state, without where it lies. -/
structure Pst where
  left : ByteArray
  ahead : Bool
  ended : Bool
  count : Nat
  number : Nat
  space : ByteArray
  held : ByteArray
  wants : Value
  pc : Nat
  steps : Nat
  repl : Bool
  over : Bool
  err : Nat
  status : Nat
  out : List UInt8
  fb : List (List UInt8)
  rg : List Bool
  br : List ByteArray
def Mst.p (s : Mst) : Pst := ⟨s.left, s.ahead, s.ended, s.count, s.number, s.space, s.held, s.wants, s.pc, s.steps, s.repl, s.over, s.err, s.status, s.r.out, s.r.fb, s.r.rg, s.r.br⟩

/-- From one state to another; nothing else changed. -/
def Goes (w0 : World) (mb sb db : Nat) (w : World) (s : Mst) (w' : World) (p' : Pst) : Prop := ∃ s', s'.p = p' ∧ Mac w0 w' mb sb db s' ∧ Gr mb db w s.r w' s'.r

section
variable {w0 w w' w2 : World} {mb sb db : Nat} {s s' : Mst} {p p' : Pst}
theorem Goes.refl (h : Mac w0 w mb sb db s) : Goes w0 mb sb db w s w s.p := ⟨s, rfl, h, Gr.refl _ _ _ _⟩
theorem Goes.set (h : Mac w0 w mb sb db s) (j : Nat) (v : Value) (hj : j < 20) (hr : s'.r = s.r) (hv : (macV sb db s).set j v = macV sb db s') : Goes w0 mb sb db w s (w.setCell ⟨mb, j, none⟩ v) s'.p := by
  refine ⟨s', rfl, h.set j v hj hr hv, ?_⟩
  rw [hr]; exact Gr.set _ _ _ _
theorem Goes.keep (g : Goes w0 mb sb db w s w' p) (k : Kp [] w' w2) : Goes w0 mb sb db w s w2 p := by
  obtain ⟨s', hp, hm, hg⟩ := g
  exact ⟨s', hp, hm.keep k, hg.trans (Gr.of_kp k (fun _ e => by cases e))⟩
theorem Goes.pre {w1 : World} (k : Kp [] w w1) (g : Goes w0 mb sb db w1 s w' p) : Goes w0 mb sb db w s w' p := by
  obtain ⟨s', hp, hm, hg⟩ := g
  exact ⟨s', hp, hm, (Gr.of_kp (r := s.r) k (fun _ e => by cases e)).trans hg⟩

/-- A text is told. -/
def Pst.tell (t : ByteArray) (p : Pst) : Pst := { p with count := p.count + t.size + 1, out := p.out ++ t.data.toList ++ [10] }

set_option maxRecDepth 100000 in
set_option maxHeartbeats 1000000 in
theorem tell_v {text : ByteArray} (h : Mac w0 w mb sb db s) (hc : s.count + text.size + 1 ≤ 200000) (hx : s.r.out.length ≤ s.count) :
    Calls Tryz.prog 82 #[.pointer (some ⟨mb, 5, none⟩), .string text] w fun r w' => r = .returned (.tuple #[]) ∧ Goes w0 mb sb db w s w' (s.p.tell text) := by
  have c5 := h.b.at_ 5 _ rfl
  have H := hid (add_v (text := text) (h.b.at_ 7 _ rfl) (h.b.free 7) h.r.o2 (fun e => h.mb_ne 2 (by omega) e) h.r.kp.size hc hx)
  go_enter Tryz.func82, Tryz.ntmps82
  go_wp2_with fail
  refine H.out.mono ?_
  rintro r w1 ⟨v', rfl, A⟩
  have d5 := (A.cell 5 (by omega)).trans c5
  have f5 := (A.free 5).trans (h.b.free 5)
  obtain ⟨m1, g1⟩ := h.told A
  obtain ⟨A', c', ev, _, _⟩ := own_form A.row
  clear A
  subst ev
  go_wp2_with fail
  go_end0
  exact ⟨rfl, _, rfl, m1, g1⟩

theorem maB_vb (mb db : Nat) (r : Mrw) : maB mb db { r with vb := .slice none 0 0, br := [] } = fun j => if j = 5 then none else maB mb db r j := by
  funext i
  rcases i with _ | _ | _ | _ | _ | _ | i <;> simp [maB, Value.ownBlock]
/-- Nothing is brought. -/
theorem Mac.noBr (h : Mac w0 w mb sb db s) : Goes w0 mb sb db w s (w.setCell ⟨mb, 16, none⟩ (.slice none 0 0)) { s.p with br := [] } := by
  have k : Kp [mb] w (w.setCell ⟨mb, 16, none⟩ (.slice none 0 0)) := Kp.setCell _ _ (by simp)
  have r := h.r.keep k (fun x hx => by
    simp at hx
    subst hx
    exact ⟨h.r.bk.lo 0 x rfl, fun i hi => h.mb_ne i hi⟩)
  refine ⟨{ s with r := { s.r with vb := .slice none 0 0, br := [] } }, rfl, ⟨h.b.set 16 _ (by show 16 < 20; omega), ⟨r.kp, r.o2, r.o3, r.ofl, r.o4, World.ownsRow_nil _ _ _ _, r.md, ?_, r.fll⟩⟩, ⟨k.size, fun i p hp => ?_, fun p hp hn => k.block p hp (fun e => by simp at e; exact hn 0 (by rw [e]; rfl))⟩⟩
  · show Bk.ok _ _ (maB mb db { s.r with vb := .slice none 0 0, br := [] })
    rw [maB_vb]
    refine ⟨fun i p hp => ?_, fun i p hp => ?_, fun i j p hi hj => ?_⟩
    · split at hp
      · cases hp
      · exact r.bk.lo i p hp
    · split at hp
      · cases hp
      · exact r.bk.hi i p hp
    · split at hi <;> split at hj
      · omega
      · cases hi
      · cases hj
      · exact r.bk.ne i j p hi hj
  · replace hp : maB mb db { s.r with vb := .slice none 0 0, br := [] } i = some p := hp
    rw [maB_vb] at hp
    replace hp : (if i = 5 then none else maB mb db s.r i) = some p := hp
    split at hp
    · cases hp
    · exact .inl ⟨i, hp⟩

set_option maxRecDepth 100000 in
set_option maxHeartbeats 1000000 in
theorem tellBrought_none (h : Mac w0 w mb sb db s) (hb : s.r.br = []) :
    Calls Tryz.prog 88 #[.pointer (some ⟨mb, 0, none⟩)] w fun r w' => r = .returned (.tuple #[]) ∧ Goes w0 mb sb db w s w' s.p := by
  obtain ⟨A, c, e, _, _⟩ := own_form h.r.o5
  rw [hb] at e
  have c16 := h.b.at_ 16 _ rfl
  rw [e] at c16
  have f16 := h.b.free 16
  go_enter Tryz.func88, Tryz.ntmps88
  go_wp2_with fail
  refine wp_loop_rounds 1 ?_
  rw [rounds_succ]
  go_wp2_with fail
  go_end0
  refine ⟨rfl, ?_⟩
  have g := h.noBr
  have e2 : ({ s.p with br := [] } : Pst) = s.p := by simp [Mst.p, hb]
  rwa [e2] at g
end
end Go.Proofs.YtonnimbcekhbgaaGreatDoor
