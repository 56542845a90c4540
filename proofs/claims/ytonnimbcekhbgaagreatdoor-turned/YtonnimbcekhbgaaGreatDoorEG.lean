/- The script's reader: an address. -/
import Derived.Test.YtonnimbcekhbgaaGreatDoorEF
namespace Go.Proofs.YtonnimbcekhbgaaGreatDoor
open Go.RowKit

theorem res_row {P : Program} {fn : Func} {p : Tmp} {ty : TypeId} (h : fn.results = #[.cell p ty]) (tmps : Array Value) (w : World) (b o : Nat) (ht : tmps.getD p undef = .pointer (some ⟨b, o, none⟩)) (cs : List Value) (d : TypeDesc)
    (hc : w.rangeAt b o cs) (hu : P.underlying ty = some d) (hd : d.isRow = true) (hi : (P.info? ty).map (·.size) = some cs.length) : (results fn tmps).run P w = .ok (.agg cs.toArray) w := by
  have hl := run_loadVar_mid (P := P) w b o ty cs d hc hu hd hi
  have ht' : tmps[p]?.getD undef = .pointer (some ⟨b, o, none⟩) := by simpa using ht
  simp only [results, h]
  simp [ht', asAddr, hl]
theorem Tryz.szAddress : (Tryz.prog.info? 120).map (·.size) = some 4 := by kernel_rfl

theorem kp_setCells {S : List Nat} {b : Nat} (hb : b ∈ S) : ∀ (vs : List Value) (o : Nat) (w : World), Kp S w (w.setCells b o vs)
  | [], _, _ => Kp.refl _ _
  | v :: vs, o, w => (Kp.setCell w v (p := ⟨b, o, none⟩) hb).trans (kp_setCells hb vs (o + 1) _)

/-- A block that holds these cells. -/
structure Bl (w : World) (b : Nat) (cv : List Value) : Prop where
  lt : b < w.heap.size
  at_ : ∀ j u, cv[j]? = some u → w.cell? ⟨b, j, none⟩ = some u
  free : ∀ j, w.frozen? ⟨b, j, none⟩ = false
theorem Bl.keep {S : List Nat} {w w' : World} {b : Nat} {cv : List Value} (h : Bl w b cv) (k : Kp S w w') (hb : b ∉ S) : Bl w' b cv :=
  ⟨Nat.lt_of_lt_of_le h.lt k.size, fun j u hu => (k.cell (p := ⟨b, j, none⟩) h.lt hb).trans (h.at_ j u hu), fun j => (k.frozen (p := ⟨b, j, none⟩) h.lt hb).trans (h.free j)⟩
theorem Bl.alloc (w : World) (cv : List Value) (T : TypeId) : Bl (w.alloc (.cells cv.toArray T)) w.heap.size cv := by
  have hh : (w.alloc (.cells cv.toArray T)).heap[w.heap.size]? = some (.cells cv.toArray T) := by show (w.heap.push _)[w.heap.size]? = _; simp
  refine ⟨by simp, fun j u hu => ?_, fun j => ?_⟩
  · simp only [World.cell?, hh]; simpa using hu
  · simp only [World.frozen?, hh]; simp
theorem Bl.put {w : World} {b : Nat} {cv vs : List Value} (h : Bl w b cv) (hl : vs.length = cv.length) : Bl (w.setCells b 0 vs) b vs := by
  refine ⟨Nat.lt_of_lt_of_le h.lt (kp_setCells (S := [b]) (by simp) vs 0 w).size, fun j u hu => ?_, fun j => by rw [World.frozen?_setCells]; exact h.free j⟩
  have hj : j < vs.length := (List.getElem?_eq_some_iff.1 hu).1
  have := World.cell?_setCells_in b vs 0 w (fun i hi => by
    have hi' : i < cv.length := by omega
    have := h.at_ i cv[i] (List.getElem?_eq_getElem hi')
    rw [Nat.zero_add, this]; rfl) j hj
  rw [Nat.zero_add] at this
  rw [this, ← hu, List.getElem?_eq_getElem hj]
theorem Bl.set {w : World} {b : Nat} {cv : List Value} (h : Bl w b cv) (j : Nat) (v : Value) (hj : j < cv.length) : Bl (w.setCell ⟨b, j, none⟩ v) b (cv.set j v) := by
  refine ⟨by simpa [World.setCell] using h.lt, fun i u hu => ?_, fun i => by simpa using h.free i⟩
  by_cases e : i = j
  · subst e
    rw [List.getElem?_set_self hj] at hu
    rw [cell_same _ (h.at_ i cv[i] (List.getElem?_eq_getElem hj)), hu]
  · rw [List.getElem?_set_ne (Ne.symm e)] at hu
    rw [cell_other _ (fun q => by injection q with _ q2 _; exact e q2.symm)]
    exact h.at_ i u hu
theorem Bl.range {w : World} {b : Nat} {cv : List Value} (h : Bl w b cv) : w.rangeAt b 0 cv := fun j u hu => by rw [Nat.zero_add]; exact h.at_ j u hu

section
variable {w w' : World} {b k : Nat} {src : ByteArray}
theorem Mv.alloc (hb : b < w.heap.size) (o : Obj) : Mv b w (w.alloc o) := ⟨Kp.alloc _ _ _, fun j _ => (Kp.alloc [] w o).cell (p := ⟨b, j, none⟩) hb (by simp)⟩
/-- A new variable's block is written. -/
theorem Mv.fresh {u : World} {x : Nat} (m : Mv b w w') (q : Kp [x] w' u) (hx : w.heap.size ≤ x) (hb : b < w.heap.size) : Mv b w u :=
  ⟨((m.kp.mono (T := [x, b]) (by simp)).trans (q.mono (by simp))).own hx, fun j hj => (q.cell (p := ⟨b, j, none⟩) (Nat.lt_of_lt_of_le hb m.kp.size) (by simp; omega)).trans (m.same j hj)⟩

abbrev adrV (kd x : Nat) : List Value := [.int .i64 kd, .int .i64 x, .pointer none, .string ⟨#[]⟩]

set_option maxHeartbeats 1000000 in
theorem address_num {n x e : Nat} (hr : Cur w b src k) (hd : isD src k = true) (h : numN src 1 1000000 k n 0 k = some (x, e)) :
    Calls Tryz.prog 136 #[.pointer (some ⟨b, 0, none⟩)] w fun r w' => r = .returned (.agg (adrV 0 x).toArray) ∧ Cur w' b src e ∧ Mv b w w' := by
  have H := hid h
  clear h
  have hA := hr.keep (Kp.alloc [] w (.cells (adrV 0 0).toArray 120)) (by simp)
  have hlt := hr.lt
  have mA : Mv b w (w.alloc (.cells (adrV 0 0).toArray 120)) := Mv.alloc hlt _
  have B0 := hid (Bl.alloc w (adrV 0 0) 120)
  go_enter Tryz.func136, Tryz.ntmps136
  go_wp2_with fail
  refine (digit_c hA hd).mono ?_
  rintro r w1 ⟨rfl, h1, m1⟩
  go_wp2_with fail
  refine (number_v (lo := 1) (hi := 1000000) h1 (by omega) H.out).mono ?_
  rintro r w2 ⟨rfl, h2, m2⟩
  have m12 := m1.trans m2
  have B2 := B0.out.keep m12.kp (by simp; omega)
  have e0 := B2.at_ 0 _ rfl
  have e1 := B2.at_ 1 _ rfl
  have e2 := B2.at_ 2 _ rfl
  have e3 := B2.at_ 3 _ rfl
  have f0 := B2.free 0
  have f1 := B2.free 1
  have f2 := B2.free 2
  have f3 := B2.free 3
  go_wp2_with fail
  have B3 : Bl (w2.setCells w.heap.size 0 (adrV 0 x)) w.heap.size (adrV 0 x) := B2.put rfl
  have k3 : Kp [w.heap.size] w2 (w2.setCells w.heap.size 0 (adrV 0 x)) := kp_setCells (by simp) _ _ _
  refine bodyPost_ret (res_row (p := 2) (ty := 120) (by rw [Tryz.results136]) _ _ w.heap.size 0 rfl _ _ B3.range Tryz.underlying120 rfl (by rw [Tryz.szAddress]; rfl)) rfl ⟨rfl, h2.keep k3 (by simp; omega), (mA.trans m12).fresh k3 (Nat.le_refl _) hlt⟩

set_option maxHeartbeats 1000000 in
theorem address_last (hr : Cur w b src k) (hd : isD src k = false) (h : saw src k 36 = true) :
    Calls Tryz.prog 136 #[.pointer (some ⟨b, 0, none⟩)] w fun r w' => r = .returned (.agg (adrV 1 0).toArray) ∧ Cur w' b src (k + 1) ∧ Mv b w w' := by
  have hA := hr.keep (Kp.alloc [] w (.cells (adrV 0 0).toArray 120)) (by simp)
  have hlt := hr.lt
  have mA : Mv b w (w.alloc (.cells (adrV 0 0).toArray 120)) := Mv.alloc hlt _
  have B0 := hid (Bl.alloc w (adrV 0 0) 120)
  go_enter Tryz.func136, Tryz.ntmps136
  go_wp2_with fail
  refine (digit_c hA hd).mono ?_
  rintro r w1 ⟨rfl, h1, m1⟩
  go_wp2_with fail
  refine (take_v 36 h1 h).mono ?_
  rintro r w2 ⟨rfl, h2, m2⟩
  have m12 := m1.trans m2
  have B2 := B0.out.keep m12.kp (by simp; omega)
  have e0 := B2.at_ 0 _ rfl
  have e1 := B2.at_ 1 _ rfl
  have e2 := B2.at_ 2 _ rfl
  have e3 := B2.at_ 3 _ rfl
  have f0 := B2.free 0
  have f1 := B2.free 1
  have f2 := B2.free 2
  have f3 := B2.free 3
  go_wp2_with fail
  have B3 : Bl (w2.setCells w.heap.size 0 (adrV 1 0)) w.heap.size (adrV 1 0) := B2.put rfl
  have k3 : Kp [w.heap.size] w2 (w2.setCells w.heap.size 0 (adrV 1 0)) := kp_setCells (by simp) _ _ _
  refine bodyPost_ret (res_row (p := 2) (ty := 120) (by rw [Tryz.results136]) _ _ w.heap.size 0 rfl _ _ B3.range Tryz.underlying120 rfl (by rw [Tryz.szAddress]; rfl)) rfl ⟨rfl, h2.keep k3 (by simp; omega), (mA.trans m12).fresh k3 (Nat.le_refl _) hlt⟩
end
end Go.Proofs.YtonnimbcekhbgaaGreatDoor
