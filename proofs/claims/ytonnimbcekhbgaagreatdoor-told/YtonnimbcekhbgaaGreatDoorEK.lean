/- The script's reader: a command is put behind the others. -/
import Derived.Test.YtonnimbcekhbgaaGreatDoorEJ
namespace Go.Proofs.YtonnimbcekhbgaaGreatDoor
open Go.RowKit

section
variable {w0 w w1 w2 : World} {b k g cap : Nat} {src : ByteArray} {σ : Sst} {cv : List Value}

theorem srB_cmds (b : Nat) (σ : Sst) (A : Addr) (n c : Nat) (cs : List (List Value)) : srB b { σ with vc := .slice (some A) n c, cs := cs } = fun j => if j = 4 then some A.block else srB b σ j := by
  funext i
  rcases i with _ | _ | _ | _ | _ | _ | _ | _ | i <;> simp [srB, Value.ownBlock]

theorem Sr.pushCmd (h : Sr w0 w b src k σ) (k1 : Kp [] w w1) (ho : w2.ownsRow w0.heap.size 100 23 (.slice (some ⟨g, 0, none⟩) (σ.cs.length + 1) cap) (σ.cs.length + 1) (σ.cs.flatten ++ cv))
    (hg : w1.grownBy w2 σ.vc.ownBlock) (hor : σ.vc.ownBlock = some g ∨ w1.heap.size ≤ g) (hcv : Cv cv) :
    Sr w0 (w2.setCell ⟨b, 4, none⟩ (.slice (some ⟨g, 0, none⟩) (σ.cs.length + 1) cap)) b src k { σ with vc := .slice (some ⟨g, 0, none⟩) (σ.cs.length + 1) cap, cs := σ.cs ++ [cv] } := by
  obtain ⟨v, hv⟩ : ∃ v, v = Value.slice (some ⟨g, 0, none⟩) (σ.cs.length + 1) cap := ⟨_, rfl⟩
  have h1 := h.keep k1
  have hsz := k1.size
  have glt : g < w2.heap.size := (own_lt ho (g := g) rfl).2
  have bne : ∀ i p, i ≠ 4 → srB b σ i = some p → w2.heap[p]? = w1.heap[p]? := fun i p hi hp => hg.block p (h1.r.bk.hi i p hp) (fun e => hi (h1.r.bk.ne i 4 p hp (by first | exact e | exact e.symm)))
  have gne : ∀ i p, i ≠ 4 → srB b σ i = some p → p ≠ g := fun i p hi hp e => by
    subst e
    rcases hor with q | q
    · exact hi (h1.r.bk.ne i 4 p hp q)
    · have := h1.r.bk.hi i p hp; omega
  have kb : Kp [b] w2 (w2.setCell ⟨b, 4, none⟩ v) := Kp.setCell _ _ (by simp)
  have bb : ∀ p, p < w2.heap.size → p ≠ b → (w2.setCell ⟨b, 4, none⟩ v).heap[p]? = w2.heap[p]? := fun p hp hn => kb.block p hp (by simpa using hn)
  have hh : ∀ i p, 0 < i → i ≠ 4 → srB b σ i = some p → (w2.setCell ⟨b, 4, none⟩ v).heap[p]? = w1.heap[p]? := fun i p h0 hi hp =>
    (bb p (Nat.lt_of_lt_of_le (h1.r.bk.hi i p hp) hg.size) (fun e => by have := h1.r.bk.ne i 0 p hp (by rw [e]; rfl); omega)).trans (bne i p hi hp)
  have hb2 : w2.heap[b]? = w1.heap[b]? := bne 0 b (by omega) rfl
  have hc2 : ∀ j, w2.cell? ⟨b, j, none⟩ = w1.cell? ⟨b, j, none⟩ := fun j => World.cell?_of_block hb2
  have hf2 : ∀ j, w2.frozen? ⟨b, j, none⟩ = w1.frozen? ⟨b, j, none⟩ := fun j => World.frozen?_of_block hb2
  have hc : ∀ j, j ≠ 4 → (w2.setCell ⟨b, 4, none⟩ v).cell? ⟨b, j, none⟩ = w1.cell? ⟨b, j, none⟩ := fun j hj => (cell_other _ (fun e => by injection e with _ e2 _; exact hj e2.symm)).trans (hc2 j)
  have gb : g ≠ b := fun e => gne 0 b (by omega) rfl e.symm
  rw [← hv] at ho ⊢
  have eB : srB b { σ with vc := v, cs := σ.cs ++ [cv] } = fun j => if j = 4 then some g else srB b σ j := by rw [hv]; exact srB_cmds b σ _ _ _ _
  refine ⟨⟨Nat.lt_of_lt_of_le (Nat.lt_of_lt_of_le h1.cur.lt hg.size) kb.size, h1.cur.le, h1.cur.small, (hc _ (by omega)).trans h1.cur.c0, (hc _ (by omega)).trans h1.cur.c1, fun i => ?_⟩, ⟨(hc _ (by omega)).trans h1.c.c2, (hc _ (by omega)).trans h1.c.c3, cell_same _ ((hc2 4).trans h1.c.c4), (hc _ (by omega)).trans h1.c.c5, (hc _ (by omega)).trans h1.c.c6, (hc _ (by omega)).trans h1.c.c7, (hc _ (by omega)).trans h1.c.c8, (hc _ (by omega)).trans h1.c.c9, (hc _ (by omega)).trans h1.c.c10, (hc _ (by omega)).trans h1.c.c11⟩, ⟨?_, ?_, own_block h1.r.o5 (fun p hp => hh 5 p (by omega) (by omega) hp), own_block h1.r.o8 (fun p hp => hh 6 p (by omega) (by omega) hp), own_block h1.r.o11 (fun p hp => hh 7 p (by omega) (by omega) hp), (hh 1 _ (by omega) (by omega) rfl).trans h1.r.m7, (hh 2 _ (by omega) (by omega) rfl).trans h1.r.m9, (hh 3 _ (by omega) (by omega) rfl).trans h1.r.m10, ?_, ?_, ?_⟩⟩
  · have e1 : (w2.setCell ⟨b, 4, none⟩ v).frozen? ⟨b, i, none⟩ = w2.frozen? ⟨b, i, none⟩ := by simp
    rw [e1, hf2]
    exact h1.cur.free i
  · refine ⟨kb.os.trans (hg.os.trans h1.r.kp.os), kb.tape.trans (hg.tape.trans h1.r.kp.tape), kb.output.trans (hg.output.trans h1.r.kp.output), Nat.le_trans h1.r.kp.size (Nat.le_trans hg.size kb.size), fun j hj _ => ?_⟩
    have hj1 : j < w1.heap.size := Nat.lt_of_lt_of_le hj h1.r.kp.size
    refine (bb j (Nat.lt_of_lt_of_le hj1 hg.size) (fun e => ?_)).trans ((hg.block j hj1 (fun e => ?_)).trans (h1.r.kp.block j hj (by simp)))
    · have := h1.r.bk.lo 0 b rfl; omega
    · have := h1.r.bk.lo 4 j (by first | exact e | exact e.symm); omega
  · have ho2 := own_block (w' := w2.setCell ⟨b, 4, none⟩ v) ho (fun p hp => by
      rw [hv] at hp
      have : g = p := by simpa [Value.ownBlock] using hp
      subst this
      exact bb g glt gb)
    rw [List.length_append, List.flatten_append]
    simpa using ho2
  · intro c hm
    rcases List.mem_append.1 hm with q | q
    · exact h1.r.len c q
    · rw [List.mem_singleton.1 q]
      exact ⟨hcv.len, hcv.one⟩
  · rw [eB]
    refine h1.r.bk.upd 4 g (Nat.le_trans hg.size kb.size) h1.r.kp.size ?_
    rcases hor with q | q
    · exact .inl q
    · exact .inr ⟨q, Nat.lt_of_lt_of_le glt kb.size⟩
  · intro f hm
    obtain ⟨f1, f2, f3⟩ := h1.r.fx f hm
    have flt := lt_blk f1
    have fg : f.1 ≠ g := fun e => by
      rcases hor with q | q
      · exact f3 4 (by rw [e]; exact q)
      · omega
    refine ⟨(bb f.1 (Nat.lt_of_lt_of_le flt hg.size) (fun e => f3 0 (by rw [e]; rfl))).trans ((hg.block f.1 flt (fun e => f3 4 (by first | exact e | exact e.symm))).trans f1), f2, fun i => ?_⟩
    rw [eB]
    show (if i = 4 then some g else srB b σ i) ≠ _
    split
    · intro e
      injection e with e
      exact fg e.symm
    · exact f3 i
end
end Go.Proofs.YtonnimbcekhbgaaGreatDoor
