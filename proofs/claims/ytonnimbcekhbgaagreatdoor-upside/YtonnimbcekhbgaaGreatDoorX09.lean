/- What the claim needs of: ETToEU. -/
import Derived.Test.YtonnimbcekhbgaaGreatDoorX08

/- ETToEU. -/
namespace Go.Proofs.YtonnimbcekhbgaaGreatDoor
open Go.RowKit

/-- The machine's rows. -/
structure Mrw where
  vo : Value
  out : List UInt8
  vf : Value
  fl : List Value
  fb : List (List UInt8)
  vr : Value
  rg : List Bool
  vb : Value
  br : List ByteArray
/-- The machine's state. -/
structure Mst where
  left : ByteArray
  ahead : Bool
  ended : Bool
  count : Nat
  number : Nat
  space : ByteArray
  held : ByteArray
  wants : Value
  pc : Nat
  steps : Nat
  repl : Bool
  over : Bool
  err : Nat
  status : Nat
  r : Mrw

abbrev macV (sb db : Nat) (s : Mst) : List Value := [.pointer (some ⟨sb, 0, none⟩), .map (some db), .string s.left, .bool s.ahead, .bool s.ended, s.r.vo, s.r.vf, .int .i64 s.count, .int .i64 s.number, .string s.space, .string s.held, s.r.vr, s.wants, .int .i64 s.pc, .int .i64 s.steps, .bool s.repl, s.r.vb, .bool s.over, .int .i64 s.err, .int .i64 s.status]

def maB (mb db : Nat) (r : Mrw) : Bk
  | 0 => some mb
  | 1 => some db
  | 2 => r.vo.ownBlock
  | 3 => r.vf.ownBlock
  | 4 => r.vr.ownBlock
  | 5 => r.vb.ownBlock
  | n + 6 => (r.fl[n]?).bind Value.ownBlock

structure MacR (w0 w : World) (mb db : Nat) (r : Mrw) : Prop where
  kp : Kp [] w0 w
  o2 : w.ownsRow w0.heap.size 5 1 r.vo r.out.length (Lib.byteCells r.out)
  o3 : w.ownsRow w0.heap.size 34 1 r.vf r.fl.length r.fl
  ofl : ∀ (i : Nat) (v : Value), r.fl[i]? = some v → ∃ bs : List UInt8, r.fb[i]? = some bs ∧ w.ownsRow w0.heap.size 5 1 v bs.length (Lib.byteCells bs)
  o4 : w.ownsRow w0.heap.size 4 1 r.vr r.rg.length (r.rg.map .bool)
  o5 : w.ownsRow w0.heap.size 9 1 r.vb r.br.length (r.br.map .string)
  md : w.heap[db]? = some (tabO deedsL)
  bk : Bk.ok w0.heap.size w.heap.size (maB mb db r)
  fll : r.fb.length = r.fl.length

/-- The machine in memory. -/
structure Mac (w0 w : World) (mb sb db : Nat) (s : Mst) : Prop where
  b : Bl w mb (macV sb db s)
  r : MacR w0 w mb db s.r

/-- What changed is the machine's own, or new. -/
structure Gr (mb db : Nat) (w : World) (r : Mrw) (w' : World) (r' : Mrw) : Prop where
  size : w.heap.size ≤ w'.heap.size
  from_ : ∀ i p, maB mb db r' i = some p → (∃ j, maB mb db r j = some p) ∨ w.heap.size ≤ p
  same : ∀ p, p < w.heap.size → (∀ i, maB mb db r i ≠ some p) → w'.heap[p]? = w.heap[p]?

section
variable {w0 w w' w2 : World} {mb sb db : Nat} {s s' : Mst} {r r' r2 : Mrw}
theorem Gr.refl (mb db : Nat) (w : World) (r : Mrw) : Gr mb db w r w r := ⟨Nat.le_refl _, fun i _ h => .inl ⟨i, h⟩, fun _ _ _ => rfl⟩
theorem Gr.trans (h : Gr mb db w r w' r') (k : Gr mb db w' r' w2 r2) : Gr mb db w r w2 r2 := by
  refine ⟨Nat.le_trans h.size k.size, fun i p hp => ?_, fun p hp hn => ?_⟩
  · rcases k.from_ i p hp with ⟨j, hj⟩ | q
    · exact h.from_ j p hj
    · exact .inr (Nat.le_trans h.size q)
  · refine (k.same p (Nat.lt_of_lt_of_le hp h.size) (fun i e => ?_)).trans (h.same p hp hn)
    rcases h.from_ i p e with ⟨j, hj⟩ | q
    · exact hn j hj
    · omega
theorem Gr.of_kp {S : List Nat} (k : Kp S w w') (hS : ∀ x ∈ S, ∃ i, maB mb db r i = some x) : Gr mb db w r w' r :=
  ⟨k.size, fun i _ h => .inl ⟨i, h⟩, fun p hp hn => k.block p hp (fun e => by obtain ⟨i, hi⟩ := hS p e; exact hn i hi)⟩
/-- Another's block is as it was. -/
theorem Gr.bl {x : Nat} {cv : List Value} (h : Gr mb db w r w' r') (B : Bl w x cv) (hx : ∀ i, maB mb db r i ≠ some x) : Bl w' x cv := by
  have e := h.same x B.lt hx
  exact ⟨Nat.lt_of_lt_of_le B.lt h.size, fun j u hu => (World.cell?_of_block e).trans (B.at_ j u hu), fun j => (World.frozen?_of_block e).trans (B.free j)⟩

theorem MacR.keep {S : List Nat} (h : MacR w0 w mb db r) (k : Kp S w w') (hS : ∀ x ∈ S, w0.heap.size ≤ x ∧ ∀ i, 0 < i → maB mb db r i ≠ some x) : MacR w0 w' mb db r := by
  have hh : ∀ i p, 0 < i → maB mb db r i = some p → w'.heap[p]? = w.heap[p]? := fun i p hi hp => k.block p (h.bk.hi i p hp) (fun e => (hS p e).2 i hi hp)
  refine ⟨⟨k.os.trans h.kp.os, k.tape.trans h.kp.tape, k.output.trans h.kp.output, Nat.le_trans h.kp.size k.size, fun j hj _ => (k.block j (Nat.lt_of_lt_of_le hj h.kp.size) (fun e => by have := (hS j e).1; omega)).trans (h.kp.block j hj (by simp))⟩, own_block h.o2 (fun p hp => hh 2 p (by omega) hp), own_block h.o3 (fun p hp => hh 3 p (by omega) hp), fun i v hv => ?_, own_block h.o4 (fun p hp => hh 4 p (by omega) hp), own_block h.o5 (fun p hp => hh 5 p (by omega) hp), (hh 1 _ (by omega) rfl).trans h.md, h.bk.grow k.size, h.fll⟩
  obtain ⟨bs, h1, h2⟩ := h.ofl i v hv
  exact ⟨bs, h1, own_block h2 (fun p hp => hh (i + 6) p (by omega) (show (r.fl[i]?).bind Value.ownBlock = some p by rw [hv]; exact hp))⟩

theorem Mac.mb_ne (h : Mac w0 w mb sb db s) (i : Nat) (hi : 0 < i) : maB mb db s.r i ≠ some mb := fun e => by have := h.r.bk.ne i 0 mb e rfl; omega
theorem Mac.other {S : List Nat} (h : Mac w0 w mb sb db s) (k : Kp S w w') (hS : ∀ x ∈ S, w0.heap.size ≤ x ∧ ∀ i, maB mb db s.r i ≠ some x) : Mac w0 w' mb sb db s :=
  ⟨h.b.keep k (fun e => (hS mb e).2 0 rfl), h.r.keep k (fun x hx => ⟨(hS x hx).1, fun i _ => (hS x hx).2 i⟩)⟩
theorem Mac.keep (h : Mac w0 w mb sb db s) (k : Kp [] w w') : Mac w0 w' mb sb db s := h.other k (fun _ e => by cases e)
theorem Mac.far_new (h : Mac w0 w mb sb db s) {x : Nat} (hx : w.heap.size ≤ x) : w0.heap.size ≤ x ∧ ∀ i, maB mb db s.r i ≠ some x :=
  ⟨Nat.le_trans h.r.kp.size hx, fun i e => by have := h.r.bk.hi i x e; omega⟩

/-- One of its plain fields is stored. -/
theorem Mac.set (h : Mac w0 w mb sb db s) (j : Nat) (v : Value) (hj : j < 20) (hr : s'.r = s.r) (hv : (macV sb db s).set j v = macV sb db s') : Mac w0 (w.setCell ⟨mb, j, none⟩ v) mb sb db s' := by
  refine ⟨?_, ?_⟩
  · rw [← hv]; exact h.b.set j v hj
  · rw [hr]
    exact h.r.keep (S := [mb]) (Kp.setCell _ _ (by simp)) (fun x hx => by
      simp at hx
      subst hx
      exact ⟨h.r.bk.lo 0 x rfl, fun i hi => h.mb_ne i hi⟩)
theorem Gr.set (w : World) (r : Mrw) (j : Nat) (v : Value) : Gr mb db w r (w.setCell ⟨mb, j, none⟩ v) r := Gr.of_kp (S := [mb]) (Kp.setCell _ _ (by simp)) (fun x hx => by simp at hx; subst hx; exact ⟨0, rfl⟩)

theorem maB_vo (mb db : Nat) (r : Mrw) (v : Value) (o : List UInt8) : maB mb db { r with vo := v, out := o } = fun j => if j = 2 then v.ownBlock else maB mb db r j := by
  funext i
  rcases i with _ | _ | _ | _ | _ | _ | i <;> simp [maB]

/-- A text is told. -/
theorem Mac.told {w1 : World} {v' : Value} {text : ByteArray} (h : Mac w0 w mb sb db s) (A : Added mb s.count s.r.vo w0.heap.size s.r.out text w w1 v') :
    Mac w0 (w1.setCell ⟨mb, 5, none⟩ v') mb sb db { s with count := s.count + text.size + 1, r := { s.r with vo := v', out := s.r.out ++ text.data.toList ++ [10] } } ∧
      Gr mb db w s.r (w1.setCell ⟨mb, 5, none⟩ v') { s.r with vo := v', out := s.r.out ++ text.data.toList ++ [10] } := by
  have mlt := h.b.lt
  have hS : ∀ x ∈ mb :: s.r.vo.ownBlock.toList, ∃ i, maB mb db s.r i = some x := fun x hx => by
    rcases List.mem_cons.1 hx with q | q
    · exact ⟨0, by rw [q]; rfl⟩
    · exact ⟨2, by simpa [maB] using q⟩
  have ks : Kp [mb] w1 (w1.setCell ⟨mb, 5, none⟩ v') := Kp.setCell _ _ (by simp)
  have kk : Kp (mb :: s.r.vo.ownBlock.toList) w (w1.setCell ⟨mb, 5, none⟩ v') := A.kp.trans (ks.mono (by simp))
  have hh : ∀ i p, i ≠ 0 → i ≠ 2 → maB mb db s.r i = some p → (w1.setCell ⟨mb, 5, none⟩ v').heap[p]? = w.heap[p]? := fun i p h0 h2 hp => kk.block p (h.r.bk.hi i p hp) (fun e => by
    rcases List.mem_cons.1 e with q | q
    · exact h0 (h.r.bk.ne i 0 p hp (by rw [q]; rfl))
    · exact h2 (h.r.bk.ne i 2 p hp (by simpa [maB] using q)))
  have vne : v'.ownBlock ≠ some mb := fun e => by
    rcases A.at_ mb e with q | q
    · have := h.r.bk.ne 2 0 mb q rfl; omega
    · omega
  have B1 : Bl w1 mb ((macV sb db s).set 7 (.int .i64 ((s.count + text.size + 1 : Nat) : Int))) := by
    refine ⟨Nat.lt_of_lt_of_le mlt A.kp.size, fun j u hu => ?_, fun j => (A.free j).trans (h.b.free j)⟩
    by_cases e : j = 7
    · subst e
      rw [List.getElem?_set_self (by show 7 < 20; omega)] at hu
      rw [A.c7, hu]
    · rw [List.getElem?_set_ne (Ne.symm e)] at hu
      exact (A.cell j e).trans (h.b.at_ j u hu)
  have lo0 := h.r.kp.size
  have bk' : Bk.ok w0.heap.size (w1.setCell ⟨mb, 5, none⟩ v').heap.size (maB mb db { s.r with vo := v', out := s.r.out ++ text.data.toList ++ [10] }) := by
    rw [maB_vo]
    cases hv : v'.ownBlock with
    | none =>
      refine ⟨fun i p hp => ?_, fun i p hp => ?_, fun i j p hi hj => ?_⟩
      · split at hp
        · cases hp
        · exact h.r.bk.lo i p hp
      · split at hp
        · cases hp
        · exact Nat.lt_of_lt_of_le (h.r.bk.hi i p hp) kk.size
      · split at hi <;> split at hj
        · omega
        · cases hi
        · cases hj
        · exact h.r.bk.ne i j p hi hj
    | some g =>
      refine h.r.bk.upd 2 g kk.size lo0 ?_
      rcases A.at_ g hv with q | q
      · exact .inl q
      · exact .inr ⟨q, Nat.lt_of_lt_of_le (own_lt A.row hv).2 ks.size⟩
  refine ⟨⟨B1.set 5 v' (by show 5 < 20; omega), ⟨?_, ?_, own_block h.r.o3 (fun p hp => hh 3 p (by omega) (by omega) hp), fun i v hv => ?_, own_block h.r.o4 (fun p hp => hh 4 p (by omega) (by omega) hp), own_block h.r.o5 (fun p hp => hh 5 p (by omega) (by omega) hp), (hh 1 _ (by omega) (by omega) rfl).trans h.r.md, bk', h.r.fll⟩⟩, ⟨kk.size, fun i p hp => ?_, fun p hp hn => kk.block p hp (fun e => by obtain ⟨i, hi⟩ := hS p e; exact hn i hi)⟩⟩
  · refine ⟨kk.os.trans h.r.kp.os, kk.tape.trans h.r.kp.tape, kk.output.trans h.r.kp.output, Nat.le_trans lo0 kk.size, fun j hj _ => (kk.block j (Nat.lt_of_lt_of_le hj lo0) (fun e => ?_)).trans (h.r.kp.block j hj (by simp))⟩
    obtain ⟨i, hi⟩ := hS j e
    have := h.r.bk.lo i j hi
    omega
  · have hl : (s.r.out ++ text.data.toList ++ [10]).length = s.r.out.length + text.size + 1 := by
      rw [List.length_append, List.length_append]; rfl
    show World.ownsRow _ _ _ 1 v' (s.r.out ++ text.data.toList ++ [10]).length (Lib.byteCells (s.r.out ++ text.data.toList ++ [10]))
    rw [hl]
    exact own_block A.row (fun p hp => ks.block p (own_lt A.row hp).2 (fun e => vne (by simp at e; rw [← e]; exact hp)))
  · obtain ⟨bs, h1, h2⟩ := h.r.ofl i v hv
    exact ⟨bs, h1, own_block h2 (fun p hp => hh (i + 6) p (by omega) (by omega) (show (s.r.fl[i]?).bind Value.ownBlock = some p by rw [hv]; exact hp))⟩
  · rw [maB_vo] at hp
    replace hp : (if i = 2 then v'.ownBlock else maB mb db s.r i) = some p := hp
    split at hp
    · rcases A.at_ p hp with q | q
      · exact .inl ⟨2, q⟩
      · exact .inr q
    · exact .inl ⟨i, hp⟩
end
end Go.Proofs.YtonnimbcekhbgaaGreatDoor

/- The machine: how it tells, ends and begins a cycle. -/
namespace Go.Proofs.YtonnimbcekhbgaaGreatDoor
open Go.RowKit

/-- The machine's state, without where it lies. -/
structure Pst where
  left : ByteArray
  ahead : Bool
  ended : Bool
  count : Nat
  number : Nat
  space : ByteArray
  held : ByteArray
  wants : Value
  pc : Nat
  steps : Nat
  repl : Bool
  over : Bool
  err : Nat
  status : Nat
  out : List UInt8
  fb : List (List UInt8)
  rg : List Bool
  br : List ByteArray
def Mst.p (s : Mst) : Pst := ⟨s.left, s.ahead, s.ended, s.count, s.number, s.space, s.held, s.wants, s.pc, s.steps, s.repl, s.over, s.err, s.status, s.r.out, s.r.fb, s.r.rg, s.r.br⟩

/-- From one state to another; nothing else changed. -/
def Goes (w0 : World) (mb sb db : Nat) (w : World) (s : Mst) (w' : World) (p' : Pst) : Prop := ∃ s', s'.p = p' ∧ Mac w0 w' mb sb db s' ∧ Gr mb db w s.r w' s'.r

section
variable {w0 w w' w2 : World} {mb sb db : Nat} {s s' : Mst} {p p' : Pst}
theorem Goes.refl (h : Mac w0 w mb sb db s) : Goes w0 mb sb db w s w s.p := ⟨s, rfl, h, Gr.refl _ _ _ _⟩
theorem Goes.set (h : Mac w0 w mb sb db s) (j : Nat) (v : Value) (hj : j < 20) (hr : s'.r = s.r) (hv : (macV sb db s).set j v = macV sb db s') : Goes w0 mb sb db w s (w.setCell ⟨mb, j, none⟩ v) s'.p := by
  refine ⟨s', rfl, h.set j v hj hr hv, ?_⟩
  rw [hr]; exact Gr.set _ _ _ _
theorem Goes.keep (g : Goes w0 mb sb db w s w' p) (k : Kp [] w' w2) : Goes w0 mb sb db w s w2 p := by
  obtain ⟨s', hp, hm, hg⟩ := g
  exact ⟨s', hp, hm.keep k, hg.trans (Gr.of_kp k (fun _ e => by cases e))⟩
theorem Goes.pre {w1 : World} (k : Kp [] w w1) (g : Goes w0 mb sb db w1 s w' p) : Goes w0 mb sb db w s w' p := by
  obtain ⟨s', hp, hm, hg⟩ := g
  exact ⟨s', hp, hm, (Gr.of_kp (r := s.r) k (fun _ e => by cases e)).trans hg⟩

/-- A text is told. -/
def Pst.tell (t : ByteArray) (p : Pst) : Pst := { p with count := p.count + t.size + 1, out := p.out ++ t.data.toList ++ [10] }

set_option maxRecDepth 100000 in
set_option maxHeartbeats 1000000 in
theorem tell_v {text : ByteArray} (h : Mac w0 w mb sb db s) (hc : s.count + text.size + 1 ≤ 200000) (hx : s.r.out.length ≤ s.count) :
    Calls Tryz.prog 82 #[.pointer (some ⟨mb, 5, none⟩), .string text] w fun r w' => r = .returned (.tuple #[]) ∧ Goes w0 mb sb db w s w' (s.p.tell text) := by
  have c5 := h.b.at_ 5 _ rfl
  have H := hid (add_v (text := text) (h.b.at_ 7 _ rfl) (h.b.free 7) h.r.o2 (fun e => h.mb_ne 2 (by omega) e) h.r.kp.size hc hx)
  go_enter Tryz.func82, Tryz.ntmps82
  go_wp2_with fail
  refine H.out.mono ?_
  rintro r w1 ⟨v', rfl, A⟩
  have d5 := (A.cell 5 (by omega)).trans c5
  have f5 := (A.free 5).trans (h.b.free 5)
  obtain ⟨m1, g1⟩ := h.told A
  obtain ⟨A', c', ev, _, _⟩ := own_form A.row
  clear A
  subst ev
  go_wp2_with fail
  go_end0
  exact ⟨rfl, _, rfl, m1, g1⟩

theorem maB_vb (mb db : Nat) (r : Mrw) : maB mb db { r with vb := .slice none 0 0, br := [] } = fun j => if j = 5 then none else maB mb db r j := by
  funext i
  rcases i with _ | _ | _ | _ | _ | _ | i <;> simp [maB, Value.ownBlock]
/-- Nothing is brought. -/
theorem Mac.noBr (h : Mac w0 w mb sb db s) : Goes w0 mb sb db w s (w.setCell ⟨mb, 16, none⟩ (.slice none 0 0)) { s.p with br := [] } := by
  have k : Kp [mb] w (w.setCell ⟨mb, 16, none⟩ (.slice none 0 0)) := Kp.setCell _ _ (by simp)
  have r := h.r.keep k (fun x hx => by
    simp at hx
    subst hx
    exact ⟨h.r.bk.lo 0 x rfl, fun i hi => h.mb_ne i hi⟩)
  refine ⟨{ s with r := { s.r with vb := .slice none 0 0, br := [] } }, rfl, ⟨h.b.set 16 _ (by show 16 < 20; omega), ⟨r.kp, r.o2, r.o3, r.ofl, r.o4, World.ownsRow_nil _ _ _ _, r.md, ?_, r.fll⟩⟩, ⟨k.size, fun i p hp => ?_, fun p hp hn => k.block p hp (fun e => by simp at e; exact hn 0 (by rw [e]; rfl))⟩⟩
  · show Bk.ok _ _ (maB mb db { s.r with vb := .slice none 0 0, br := [] })
    rw [maB_vb]
    refine ⟨fun i p hp => ?_, fun i p hp => ?_, fun i j p hi hj => ?_⟩
    · split at hp
      · cases hp
      · exact r.bk.lo i p hp
    · split at hp
      · cases hp
      · exact r.bk.hi i p hp
    · split at hi <;> split at hj
      · omega
      · cases hi
      · cases hj
      · exact r.bk.ne i j p hi hj
  · replace hp : maB mb db { s.r with vb := .slice none 0 0, br := [] } i = some p := hp
    rw [maB_vb] at hp
    replace hp : (if i = 5 then none else maB mb db s.r i) = some p := hp
    split at hp
    · cases hp
    · exact .inl ⟨i, hp⟩

set_option maxRecDepth 100000 in
set_option maxHeartbeats 1000000 in
theorem tellBrought_none (h : Mac w0 w mb sb db s) (hb : s.r.br = []) :
    Calls Tryz.prog 88 #[.pointer (some ⟨mb, 0, none⟩)] w fun r w' => r = .returned (.tuple #[]) ∧ Goes w0 mb sb db w s w' s.p := by
  obtain ⟨A, c, e, _, _⟩ := own_form h.r.o5
  rw [hb] at e
  have c16 := h.b.at_ 16 _ rfl
  rw [e] at c16
  have f16 := h.b.free 16
  go_enter Tryz.func88, Tryz.ntmps88
  go_wp2_with fail
  refine wp_loop_rounds 1 ?_
  rw [rounds_succ]
  go_wp2_with fail
  go_end0
  refine ⟨rfl, ?_⟩
  have g := h.noBr
  have e2 : ({ s.p with br := [] } : Pst) = s.p := by simp [Mst.p, hb]
  rwa [e2] at g
end
end Go.Proofs.YtonnimbcekhbgaaGreatDoor
