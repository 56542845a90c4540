/- One text out of several: EJ EK. -/
import Derived.Test.YtonnimbcekhbgaaGreatDoorEI
import Derived.Deep.RegionLaw
import Derived.Lib.SmallJoins

/- The script's reader: a command. -/
namespace Go.Proofs.YtonnimbcekhbgaaGreatDoor
open Go.RowKit

/-- The addresses that stand at a place. -/
def AdrsOk (src : ByteArray) (k e : Nat) : List Adr → Prop
  | [] => isA src k = false ∧ e = k
  | [A] => A.ok src k e ∧ saw src e 44 = false
  | [A, B] => ∃ e1, A.ok src k e1 ∧ saw src e1 44 = true ∧ B.ok src (e1 + 1) e
  | _ => False
/-- Addresses among what stays. -/
def AdrsV (fs : List (Nat × Obj)) (v : Value) (L : List Adr) : Prop :=
  (L = [] ∧ v = .slice none 0 0) ∨ ∃ p c cells, v = .slice (some ⟨p, 0, none⟩) L.length c ∧ (p, Obj.cells cells 120 (0, 0)) ∈ fs ∧ ∀ i A, L[i]? = some A → ∀ j u, A.v[j]? = some u → cells[4 * i + j]? = some u

section
variable {w0 w w' : World} {b k : Nat} {src : ByteArray} {σ : Sst}

theorem srB_fs (b : Nat) (σ : Sst) (fs : List (Nat × Obj)) : srB b { σ with fs := fs } = srB b σ := by
  funext i
  rcases i with _ | _ | _ | _ | _ | _ | _ | _ | i <;> rfl
theorem srB_ranges (b : Nat) (σ : Sst) (n : Nat) : srB b { σ with ranges := n } = srB b σ := by
  funext i
  rcases i with _ | _ | _ | _ | _ | _ | _ | _ | i <;> rfl

/-- Something more stays as it is. -/
theorem Sr.addFact (h : Sr w0 w b src k σ) {p : Nat} {o : Obj} (hp : w.heap[p]? = some o) (hf : Sr.Far w0 b σ p) : Sr w0 w b src k { σ with fs := (p, o) :: σ.fs } :=
  ⟨h.cur, ⟨h.c.c2, h.c.c3, h.c.c4, h.c.c5, h.c.c6, h.c.c7, h.c.c8, h.c.c9, h.c.c10, h.c.c11⟩, ⟨h.r.kp, h.r.o4, h.r.o5, h.r.o8, h.r.o11, h.r.m7, h.r.m9, h.r.m10, h.r.len, by rw [srB_fs]; exact h.r.bk, fun f hm => by
    rw [srB_fs]
    rcases List.mem_cons.1 hm with q | q
    · subst q
      exact ⟨hp, hf.lo, hf.bk⟩
    · exact h.r.fx f q⟩⟩

theorem addresses_any {k1 : Nat} {L : List Adr} (h : Sr w0 w b src k σ) (hA : AdrsOk src k k1 L) :
    Calls Tryz.prog 118 #[.pointer (some ⟨b, 0, none⟩)] w fun r w' => ∃ A c fs, r = .returned (.slice A L.length c) ∧ AdrsV fs (.slice A L.length c) L ∧ (∀ f ∈ σ.fs, f ∈ fs) ∧ Sr w0 w' b src k1 { σ with fs := fs } ∧ Kp [b] w w' := by
  have fin : ∀ (w' : World) (v : Value), AdrsAt w' v L → (∀ p, v.ownBlock = some p → w.heap.size ≤ p) → Cur w' b src k1 → Mv b w w' →
      ∃ A c fs, Ending.returned v = .returned (.slice A L.length c) ∧ AdrsV fs (.slice A L.length c) L ∧ (∀ f ∈ σ.fs, f ∈ fs) ∧ Sr w0 w' b src k1 { σ with fs := fs } ∧ Kp [b] w w' := by
    intro w' v ha hp hc hm
    rcases ha with ⟨rfl, rfl⟩ | ⟨p, c, cells, rfl, hh, hx⟩
    · exact ⟨none, 0, σ.fs, rfl, .inl ⟨rfl, rfl⟩, fun f hf => hf, h.move hm hc, hm.kp⟩
    · exact ⟨_, c, (p, Obj.cells cells 120 (0, 0)) :: σ.fs, rfl, .inr ⟨p, c, cells, rfl, by simp, hx⟩, fun f hf => by simp [hf], (h.move hm hc).addFact hh (h.far_new (hp p rfl)), hm.kp⟩
  match L, hA with
  | [], hA =>
    obtain ⟨h1, rfl⟩ := hA
    exact (addresses_none h.cur h1).mono fun r w' ⟨hr, hc, hm⟩ => by
      subst hr
      exact fin w' _ (.inl ⟨rfl, rfl⟩) (fun p hp => by cases hp) hc hm
  | [A], hA => exact (addresses_one h.cur hA.1 hA.2).mono fun r w' ⟨v, hr, ha, hp, hc, hm⟩ => by subst hr; exact fin w' v ha hp hc hm
  | [A, B], hA =>
    obtain ⟨e1, h1, h2, h3⟩ := hA
    exact (addresses_two h.cur h1 h2 h3).mono fun r w' ⟨v, hr, ha, hp, hc, hm⟩ => by subst hr; exact fin w' v ha hp hc hm

abbrev sE : Value := .string ⟨#[]⟩
abbrev nE : Value := .int .i64 0
/-- A command's cells, ahead of its operand. -/
abbrev cmdV (v : Value) (rng : Nat) (nt : Bool) (x : Nat) : List Value := [v, .int .i64 rng, .bool nt, .int .u8 x, sE, nE, sE, nE, nE, sE, sE, .pointer none, sE, sE, sE, .slice none 0 0, .bool false, nE, .bool false, sE, sE, sE, sE]
theorem cmdV_ok (A : Option Addr) (n c rng : Nat) (nt : Bool) (x : Nat) : Cv (cmdV (.slice A n c) rng nt x) := ⟨rfl, fun u hu => by
  simp only [cmdV, List.mem_cons, List.not_mem_nil, or_false] at hu
  rcases hu with h | h | h | h | h | h | h | h | h | h | h | h | h | h | h | h | h | h | h | h | h | h | h <;> subst h <;> rfl⟩

theorem cv_all {cv : List Value} (h : cv.length = 23) : ∃ x0 x1 x2 x3 x4 x5 x6 x7 x8 x9 x10 x11 x12 x13 x14 x15 x16 x17 x18 x19 x20 x21 x22, cv = [x0, x1, x2, x3, x4, x5, x6, x7, x8, x9, x10, x11, x12, x13, x14, x15, x16, x17, x18, x19, x20, x21, x22] := by
  match cv, h with
  | [x0, x1, x2, x3, x4, x5, x6, x7, x8, x9, x10, x11, x12, x13, x14, x15, x16, x17, x18, x19, x20, x21, x22], _ => exact ⟨_, _, _, _, _, _, _, _, _, _, _, _, _, _, _, _, _, _, _, _, _, _, _, rfl⟩

/-- The number of ranges is counted up. -/
theorem Sr.ranged (h : Sr w0 w b src k σ) (n : Nat) : Sr w0 (w.setCell ⟨b, 6, none⟩ (.int .i64 n)) b src k { σ with ranges := n } := by
  have kp : Kp [b] w (w.setCell ⟨b, 6, none⟩ (.int .i64 n)) := Kp.setCell _ _ (by simp)
  have hc : ∀ j, j ≠ 6 → (w.setCell ⟨b, 6, none⟩ (Value.int .i64 n)).cell? ⟨b, j, none⟩ = w.cell? ⟨b, j, none⟩ := fun j hj => cell_other _ (fun e => by injection e with _ e2 _; exact hj e2.symm)
  refine ⟨⟨by simpa [World.setCell] using h.cur.lt, h.cur.le, h.cur.small, (hc _ (by omega)).trans h.cur.c0, (hc _ (by omega)).trans h.cur.c1, fun i => by simpa using h.cur.free i⟩, ⟨(hc _ (by omega)).trans h.c.c2, (hc _ (by omega)).trans h.c.c3, (hc _ (by omega)).trans h.c.c4, (hc _ (by omega)).trans h.c.c5, cell_same _ h.c.c6, (hc _ (by omega)).trans h.c.c7, (hc _ (by omega)).trans h.c.c8, (hc _ (by omega)).trans h.c.c9, (hc _ (by omega)).trans h.c.c10, (hc _ (by omega)).trans h.c.c11⟩, ?_⟩
  have r := h.r.keep kp (fun x hx => by
    simp at hx
    subst hx
    exact ⟨h.r.bk.lo 0 x rfl, fun i hi e => by have := h.r.bk.ne i 0 x e rfl; omega, fun f hf e => (h.r.fx f hf).2.2 0 (by rw [e]; rfl)⟩)
  exact ⟨r.kp, r.o4, r.o5, r.o8, r.o11, r.m7, r.m9, r.m10, r.len, by rw [srB_ranges]; exact r.bk, by rw [srB_ranges]; exact r.fx⟩
end
end Go.Proofs.YtonnimbcekhbgaaGreatDoor

/- The script's reader: a command is put behind the others. -/
namespace Go.Proofs.YtonnimbcekhbgaaGreatDoor
open Go.RowKit

section
variable {w0 w w1 w2 : World} {b k g cap : Nat} {src : ByteArray} {σ : Sst} {cv : List Value}

theorem srB_cmds (b : Nat) (σ : Sst) (A : Addr) (n c : Nat) (cs : List (List Value)) : srB b { σ with vc := .slice (some A) n c, cs := cs } = fun j => if j = 4 then some A.block else srB b σ j := by
  funext i
  rcases i with _ | _ | _ | _ | _ | _ | _ | _ | i <;> simp [srB, Value.ownBlock]

theorem Sr.pushCmd (h : Sr w0 w b src k σ) (k1 : Kp [] w w1) (ho : w2.ownsRow w0.heap.size 100 23 (.slice (some ⟨g, 0, none⟩) (σ.cs.length + 1) cap) (σ.cs.length + 1) (σ.cs.flatten ++ cv))
    (hg : w1.grownBy w2 σ.vc.ownBlock) (hor : σ.vc.ownBlock = some g ∨ w1.heap.size ≤ g) (hcv : Cv cv) :
    Sr w0 (w2.setCell ⟨b, 4, none⟩ (.slice (some ⟨g, 0, none⟩) (σ.cs.length + 1) cap)) b src k { σ with vc := .slice (some ⟨g, 0, none⟩) (σ.cs.length + 1) cap, cs := σ.cs ++ [cv] } := by
  obtain ⟨v, hv⟩ : ∃ v, v = Value.slice (some ⟨g, 0, none⟩) (σ.cs.length + 1) cap := ⟨_, rfl⟩
  have h1 := h.keep k1
  have hsz := k1.size
  have glt : g < w2.heap.size := (own_lt ho (g := g) rfl).2
  have bne : ∀ i p, i ≠ 4 → srB b σ i = some p → w2.heap[p]? = w1.heap[p]? := fun i p hi hp => hg.block p (h1.r.bk.hi i p hp) (fun e => hi (h1.r.bk.ne i 4 p hp (by first | exact e | exact e.symm)))
  have gne : ∀ i p, i ≠ 4 → srB b σ i = some p → p ≠ g := fun i p hi hp e => by
    subst e
    rcases hor with q | q
    · exact hi (h1.r.bk.ne i 4 p hp q)
    · have := h1.r.bk.hi i p hp; omega
  have kb : Kp [b] w2 (w2.setCell ⟨b, 4, none⟩ v) := Kp.setCell _ _ (by simp)
  have bb : ∀ p, p < w2.heap.size → p ≠ b → (w2.setCell ⟨b, 4, none⟩ v).heap[p]? = w2.heap[p]? := fun p hp hn => kb.block p hp (by simpa using hn)
  have hh : ∀ i p, 0 < i → i ≠ 4 → srB b σ i = some p → (w2.setCell ⟨b, 4, none⟩ v).heap[p]? = w1.heap[p]? := fun i p h0 hi hp =>
    (bb p (Nat.lt_of_lt_of_le (h1.r.bk.hi i p hp) hg.size) (fun e => by have := h1.r.bk.ne i 0 p hp (by rw [e]; rfl); omega)).trans (bne i p hi hp)
  have hb2 : w2.heap[b]? = w1.heap[b]? := bne 0 b (by omega) rfl
  have hc2 : ∀ j, w2.cell? ⟨b, j, none⟩ = w1.cell? ⟨b, j, none⟩ := fun j => World.cell?_of_block hb2
  have hf2 : ∀ j, w2.frozen? ⟨b, j, none⟩ = w1.frozen? ⟨b, j, none⟩ := fun j => World.frozen?_of_block hb2
  have hc : ∀ j, j ≠ 4 → (w2.setCell ⟨b, 4, none⟩ v).cell? ⟨b, j, none⟩ = w1.cell? ⟨b, j, none⟩ := fun j hj => (cell_other _ (fun e => by injection e with _ e2 _; exact hj e2.symm)).trans (hc2 j)
  have gb : g ≠ b := fun e => gne 0 b (by omega) rfl e.symm
  rw [← hv] at ho ⊢
  have eB : srB b { σ with vc := v, cs := σ.cs ++ [cv] } = fun j => if j = 4 then some g else srB b σ j := by rw [hv]; exact srB_cmds b σ _ _ _ _
  refine ⟨⟨Nat.lt_of_lt_of_le (Nat.lt_of_lt_of_le h1.cur.lt hg.size) kb.size, h1.cur.le, h1.cur.small, (hc _ (by omega)).trans h1.cur.c0, (hc _ (by omega)).trans h1.cur.c1, fun i => ?_⟩, ⟨(hc _ (by omega)).trans h1.c.c2, (hc _ (by omega)).trans h1.c.c3, cell_same _ ((hc2 4).trans h1.c.c4), (hc _ (by omega)).trans h1.c.c5, (hc _ (by omega)).trans h1.c.c6, (hc _ (by omega)).trans h1.c.c7, (hc _ (by omega)).trans h1.c.c8, (hc _ (by omega)).trans h1.c.c9, (hc _ (by omega)).trans h1.c.c10, (hc _ (by omega)).trans h1.c.c11⟩, ⟨?_, ?_, own_block h1.r.o5 (fun p hp => hh 5 p (by omega) (by omega) hp), own_block h1.r.o8 (fun p hp => hh 6 p (by omega) (by omega) hp), own_block h1.r.o11 (fun p hp => hh 7 p (by omega) (by omega) hp), (hh 1 _ (by omega) (by omega) rfl).trans h1.r.m7, (hh 2 _ (by omega) (by omega) rfl).trans h1.r.m9, (hh 3 _ (by omega) (by omega) rfl).trans h1.r.m10, ?_, ?_, ?_⟩⟩
  · have e1 : (w2.setCell ⟨b, 4, none⟩ v).frozen? ⟨b, i, none⟩ = w2.frozen? ⟨b, i, none⟩ := by simp
    rw [e1, hf2]
    exact h1.cur.free i
  · refine ⟨kb.os.trans (hg.os.trans h1.r.kp.os), kb.tape.trans (hg.tape.trans h1.r.kp.tape), kb.output.trans (hg.output.trans h1.r.kp.output), Nat.le_trans h1.r.kp.size (Nat.le_trans hg.size kb.size), fun j hj _ => ?_⟩
    have hj1 : j < w1.heap.size := Nat.lt_of_lt_of_le hj h1.r.kp.size
    refine (bb j (Nat.lt_of_lt_of_le hj1 hg.size) (fun e => ?_)).trans ((hg.block j hj1 (fun e => ?_)).trans (h1.r.kp.block j hj (by simp)))
    · have := h1.r.bk.lo 0 b rfl; omega
    · have := h1.r.bk.lo 4 j (by first | exact e | exact e.symm); omega
  · have ho2 := own_block (w' := w2.setCell ⟨b, 4, none⟩ v) ho (fun p hp => by
      rw [hv] at hp
      have : g = p := by simpa [Value.ownBlock] using hp
      subst this
      exact bb g glt gb)
    rw [List.length_append, List.flatten_append]
    simpa using ho2
  · intro c hm
    rcases List.mem_append.1 hm with q | q
    · exact h1.r.len c q
    · rw [List.mem_singleton.1 q]
      exact ⟨hcv.len, hcv.one⟩
  · rw [eB]
    refine h1.r.bk.upd 4 g (Nat.le_trans hg.size kb.size) h1.r.kp.size ?_
    rcases hor with q | q
    · exact .inl q
    · exact .inr ⟨q, Nat.lt_of_lt_of_le glt kb.size⟩
  · intro f hm
    obtain ⟨f1, f2, f3⟩ := h1.r.fx f hm
    have flt := lt_blk f1
    have fg : f.1 ≠ g := fun e => by
      rcases hor with q | q
      · exact f3 4 (by rw [e]; exact q)
      · omega
    refine ⟨(bb f.1 (Nat.lt_of_lt_of_le flt hg.size) (fun e => f3 0 (by rw [e]; rfl))).trans ((hg.block f.1 flt (fun e => f3 4 (by first | exact e | exact e.symm))).trans f1), f2, fun i => ?_⟩
    rw [eB]
    show (if i = 4 then some g else srB b σ i) ≠ _
    split
    · intro e
      injection e with e
      exact fg e.symm
    · exact f3 i
end
end Go.Proofs.YtonnimbcekhbgaaGreatDoor
