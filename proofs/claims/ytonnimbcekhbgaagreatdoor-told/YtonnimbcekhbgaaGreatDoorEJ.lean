/- The script's reader: a command. -/
import Derived.Test.YtonnimbcekhbgaaGreatDoorEI
import Derived.Deep.RegionLaw
import Derived.Lib.SmallJoins
namespace Go.Proofs.YtonnimbcekhbgaaGreatDoor
open Go.RowKit

/-- The addresses that stand at a place. -/
def AdrsOk (src : ByteArray) (k e : Nat) : List Adr → Prop
  | [] => isA src k = false ∧ e = k
  | [A] => A.ok src k e ∧ saw src e 44 = false
  | [A, B] => ∃ e1, A.ok src k e1 ∧ saw src e1 44 = true ∧ B.ok src (e1 + 1) e
  | _ => False
/-- Addresses among what stays. -/
def AdrsV (fs : List (Nat × Obj)) (v : Value) (L : List Adr) : Prop :=
  (L = [] ∧ v = .slice none 0 0) ∨ ∃ p c cells, v = .slice (some ⟨p, 0, none⟩) L.length c ∧ (p, Obj.cells cells 120 (0, 0)) ∈ fs ∧ ∀ i A, L[i]? = some A → ∀ j u, A.v[j]? = some u → cells[4 * i + j]? = some u

section
variable {w0 w w' : World} {b k : Nat} {src : ByteArray} {σ : Sst}

theorem srB_fs (b : Nat) (σ : Sst) (fs : List (Nat × Obj)) : srB b { σ with fs := fs } = srB b σ := by
  funext i
  rcases i with _ | _ | _ | _ | _ | _ | _ | _ | i <;> rfl
theorem srB_ranges (b : Nat) (σ : Sst) (n : Nat) : srB b { σ with ranges := n } = srB b σ := by
  funext i
  rcases i with _ | _ | _ | _ | _ | _ | _ | _ | i <;> rfl

/-- Something more stays as it is. -/
theorem Sr.addFact (h : Sr w0 w b src k σ) {p : Nat} {o : Obj} (hp : w.heap[p]? = some o) (hf : Sr.Far w0 b σ p) : Sr w0 w b src k { σ with fs := (p, o) :: σ.fs } :=
  ⟨h.cur, ⟨h.c.c2, h.c.c3, h.c.c4, h.c.c5, h.c.c6, h.c.c7, h.c.c8, h.c.c9, h.c.c10, h.c.c11⟩, ⟨h.r.kp, h.r.o4, h.r.o5, h.r.o8, h.r.o11, h.r.m7, h.r.m9, h.r.m10, h.r.len, by rw [srB_fs]; exact h.r.bk, fun f hm => by
    rw [srB_fs]
    rcases List.mem_cons.1 hm with q | q
    · subst q
      exact ⟨hp, hf.lo, hf.bk⟩
    · exact h.r.fx f q⟩⟩

theorem addresses_any {k1 : Nat} {L : List Adr} (h : Sr w0 w b src k σ) (hA : AdrsOk src k k1 L) :
    Calls Tryz.prog 118 #[.pointer (some ⟨b, 0, none⟩)] w fun r w' => ∃ A c fs, r = .returned (.slice A L.length c) ∧ AdrsV fs (.slice A L.length c) L ∧ (∀ f ∈ σ.fs, f ∈ fs) ∧ Sr w0 w' b src k1 { σ with fs := fs } ∧ Kp [b] w w' := by
  have fin : ∀ (w' : World) (v : Value), AdrsAt w' v L → (∀ p, v.ownBlock = some p → w.heap.size ≤ p) → Cur w' b src k1 → Mv b w w' →
      ∃ A c fs, Ending.returned v = .returned (.slice A L.length c) ∧ AdrsV fs (.slice A L.length c) L ∧ (∀ f ∈ σ.fs, f ∈ fs) ∧ Sr w0 w' b src k1 { σ with fs := fs } ∧ Kp [b] w w' := by
    intro w' v ha hp hc hm
    rcases ha with ⟨rfl, rfl⟩ | ⟨p, c, cells, rfl, hh, hx⟩
    · exact ⟨none, 0, σ.fs, rfl, .inl ⟨rfl, rfl⟩, fun f hf => hf, h.move hm hc, hm.kp⟩
    · exact ⟨_, c, (p, Obj.cells cells 120 (0, 0)) :: σ.fs, rfl, .inr ⟨p, c, cells, rfl, by simp, hx⟩, fun f hf => by simp [hf], (h.move hm hc).addFact hh (h.far_new (hp p rfl)), hm.kp⟩
  match L, hA with
  | [], hA =>
    obtain ⟨h1, rfl⟩ := hA
    exact (addresses_none h.cur h1).mono fun r w' ⟨hr, hc, hm⟩ => by
      subst hr
      exact fin w' _ (.inl ⟨rfl, rfl⟩) (fun p hp => by cases hp) hc hm
  | [A], hA => exact (addresses_one h.cur hA.1 hA.2).mono fun r w' ⟨v, hr, ha, hp, hc, hm⟩ => by subst hr; exact fin w' v ha hp hc hm
  | [A, B], hA =>
    obtain ⟨e1, h1, h2, h3⟩ := hA
    exact (addresses_two h.cur h1 h2 h3).mono fun r w' ⟨v, hr, ha, hp, hc, hm⟩ => by subst hr; exact fin w' v ha hp hc hm

abbrev sE : Value := .string ⟨#[]⟩
abbrev nE : Value := .int .i64 0
/-- A command's cells, ahead of its operand. -/
abbrev cmdV (v : Value) (rng : Nat) (nt : Bool) (x : Nat) : List Value := [v, .int .i64 rng, .bool nt, .int .u8 x, sE, nE, sE, nE, nE, sE, sE, .pointer none, sE, sE, sE, .slice none 0 0, .bool false, nE, .bool false, sE, sE, sE, sE]
theorem cmdV_ok (A : Option Addr) (n c rng : Nat) (nt : Bool) (x : Nat) : Cv (cmdV (.slice A n c) rng nt x) := ⟨rfl, fun u hu => by
  simp only [cmdV, List.mem_cons, List.not_mem_nil, or_false] at hu
  rcases hu with h | h | h | h | h | h | h | h | h | h | h | h | h | h | h | h | h | h | h | h | h | h | h <;> subst h <;> rfl⟩

theorem cv_all {cv : List Value} (h : cv.length = 23) : ∃ x0 x1 x2 x3 x4 x5 x6 x7 x8 x9 x10 x11 x12 x13 x14 x15 x16 x17 x18 x19 x20 x21 x22, cv = [x0, x1, x2, x3, x4, x5, x6, x7, x8, x9, x10, x11, x12, x13, x14, x15, x16, x17, x18, x19, x20, x21, x22] := by
  match cv, h with
  | [x0, x1, x2, x3, x4, x5, x6, x7, x8, x9, x10, x11, x12, x13, x14, x15, x16, x17, x18, x19, x20, x21, x22], _ => exact ⟨_, _, _, _, _, _, _, _, _, _, _, _, _, _, _, _, _, _, _, _, _, _, _, rfl⟩

/-- The number of ranges is counted up. -/
theorem Sr.ranged (h : Sr w0 w b src k σ) (n : Nat) : Sr w0 (w.setCell ⟨b, 6, none⟩ (.int .i64 n)) b src k { σ with ranges := n } := by
  have kp : Kp [b] w (w.setCell ⟨b, 6, none⟩ (.int .i64 n)) := Kp.setCell _ _ (by simp)
  have hc : ∀ j, j ≠ 6 → (w.setCell ⟨b, 6, none⟩ (Value.int .i64 n)).cell? ⟨b, j, none⟩ = w.cell? ⟨b, j, none⟩ := fun j hj => cell_other _ (fun e => by injection e with _ e2 _; exact hj e2.symm)
  refine ⟨⟨by simpa [World.setCell] using h.cur.lt, h.cur.le, h.cur.small, (hc _ (by omega)).trans h.cur.c0, (hc _ (by omega)).trans h.cur.c1, fun i => by simpa using h.cur.free i⟩, ⟨(hc _ (by omega)).trans h.c.c2, (hc _ (by omega)).trans h.c.c3, (hc _ (by omega)).trans h.c.c4, (hc _ (by omega)).trans h.c.c5, cell_same _ h.c.c6, (hc _ (by omega)).trans h.c.c7, (hc _ (by omega)).trans h.c.c8, (hc _ (by omega)).trans h.c.c9, (hc _ (by omega)).trans h.c.c10, (hc _ (by omega)).trans h.c.c11⟩, ?_⟩
  have r := h.r.keep kp (fun x hx => by
    simp at hx
    subst hx
    exact ⟨h.r.bk.lo 0 x rfl, fun i hi e => by have := h.r.bk.ne i 0 x e rfl; omega, fun f hf e => (h.r.fx f hf).2.2 0 (by rw [e]; rfl)⟩)
  exact ⟨r.kp, r.o4, r.o5, r.o8, r.o11, r.m7, r.m9, r.m10, r.len, by rw [srB_ranges]; exact r.bk, by rw [srB_ranges]; exact r.fx⟩
end
end Go.Proofs.YtonnimbcekhbgaaGreatDoor
