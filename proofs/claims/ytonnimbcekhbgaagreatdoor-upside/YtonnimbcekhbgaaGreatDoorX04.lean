/- What the claim needs of: EH. -/
import Derived.Test.YtonnimbcekhbgaaGreatDoorX03

/- EH. -/
namespace Go.Proofs.YtonnimbcekhbgaaGreatDoor
open Go.RowKit

/-- An address. -/
inductive Adr
  | num (x : Nat)
  | last
  | pat (Q : Nat → World → Prop) (txt : ByteArray)
abbrev adrP (pb : Nat) (txt : ByteArray) : List Value := [.int .i64 2, .int .i64 0, .pointer (some ⟨pb, 0, none⟩), .string txt]
/-- Two blocks bear what is asked of a pattern. -/
def Bears (Q : Nat → World → Prop) (pb g : Nat) (o1 o2 : Obj) : Prop := ∀ w : World, w.heap[pb]? = some o1 → w.heap[g]? = some o2 → Q pb w
/-- A pattern is read at a place, up to another. -/
def PatOk (src : ByteArray) (k e : Nat) (Q : Nat → World → Prop) (txt : ByteArray) : Prop :=
  ∀ (w : World) (b : Nat), Cur w b src k → Calls Tryz.prog 106 #[.pointer (some ⟨b, 0, none⟩)] w fun r w' => ∃ pb g o1 o2, r = .returned (.agg #[.pointer (some ⟨pb, 0, none⟩), .string txt]) ∧ w'.heap[pb]? = some o1 ∧ w'.heap[g]? = some o2 ∧ w.heap.size ≤ pb ∧ w.heap.size ≤ g ∧ Bears Q pb g o1 o2 ∧ Cur w' b src e ∧ Mv b w w'
def Adr.ok (src : ByteArray) (k e : Nat) : Adr → Prop
  | .num x => isD src k = true ∧ ∃ n, numN src 1 1000000 k n 0 k = some (x, e)
  | .last => isD src k = false ∧ saw src k 36 = true ∧ e = k + 1
  | .pat Q txt => isD src k = false ∧ saw src k 36 = false ∧ saw src k 47 = true ∧ PatOk src k e Q txt
theorem Tryz.infoAddress : (Tryz.prog.info? 120).map (fun i => (i.zero, i.size, i.bytes)) = some (some (.agg (adrV 0 0).toArray), 4, 40) := by kernel_rfl
/-- An address's cells. -/
def AdrIs (lo : Nat) (w : World) : Adr → List Value → Prop
  | .num x, v => v = adrV 0 x
  | .last, v => v = adrV 1 0
  | .pat Q txt, v => ∃ pb g o1 o2, v = adrP pb txt ∧ w.heap[pb]? = some o1 ∧ w.heap[g]? = some o2 ∧ lo ≤ pb ∧ lo ≤ g ∧ Bears Q pb g o1 o2
theorem AdrIs.four {lo : Nat} {w : World} {A : Adr} {v : List Value} (h : AdrIs lo w A v) : ∃ x0 x1 x2 x3, v = [x0, x1, x2, x3] ∧ ∀ u ∈ [x0, x1, x2, x3], u.oneCell' = true := by
  cases A with
  | num x => exact ⟨_, _, _, _, h, by intro u hu; simp at hu; rcases hu with rfl | rfl | rfl | rfl <;> rfl⟩
  | last => exact ⟨_, _, _, _, h, by intro u hu; simp at hu; rcases hu with rfl | rfl | rfl | rfl <;> rfl⟩
  | pat Q txt =>
    obtain ⟨pb, g, o1, o2, e, _⟩ := h
    exact ⟨_, _, _, _, e, by intro u hu; simp at hu; rcases hu with rfl | rfl | rfl | rfl <;> rfl⟩
theorem AdrIs.keep {lo : Nat} {w w' : World} {S : List Nat} {A : Adr} {v : List Value} (h : AdrIs lo w A v) (k : Kp S w w') (hS : ∀ x ∈ S, x < lo ∨ w.heap.size ≤ x) : AdrIs lo w' A v := by
  cases A with
  | num x => exact h
  | last => exact h
  | pat Q txt =>
    obtain ⟨pb, g, o1, o2, e, h1, h2, l1, l2, hb⟩ := h
    have q1 := lt_blk h1
    have q2 := lt_blk h2
    exact ⟨pb, g, o1, o2, e, (k.block pb q1 (fun m => by rcases hS pb m with q | q <;> omega)).trans h1, (k.block g q2 (fun m => by rcases hS g m with q | q <;> omega)).trans h2, l1, l2, hb⟩
theorem AdrIs.lower {lo lo' : Nat} {w : World} {A : Adr} {v : List Value} (h : AdrIs lo w A v) (hl : lo' ≤ lo) : AdrIs lo' w A v := by
  cases A with
  | num x => exact h
  | last => exact h
  | pat Q txt =>
    obtain ⟨pb, g, o1, o2, e, h1, h2, l1, l2, hb⟩ := h
    exact ⟨pb, g, o1, o2, e, h1, h2, Nat.le_trans hl l1, Nat.le_trans hl l2, hb⟩

theorem kp_of_grown {w w' : World} {o : Option Nat} {S : List Nat} (h : w.grownBy w' o) (hS : ∀ p, o = some p → p ∈ S) : Kp S w w' :=
  ⟨h.os, h.tape, h.output, h.size, fun k hk hn => h.block k hk (fun e => hn (hS k (by first | exact e | exact e.symm)))⟩

/-- Addresses in memory. -/
def AdrsAt (lo : Nat) (w : World) (v : Value) (L : List Adr) : Prop :=
  (L = [] ∧ v = .slice none 0 0) ∨ ∃ p c cells, v = .slice (some ⟨p, 0, none⟩) L.length c ∧ w.heap[p]? = some (.cells cells 120 (0, 0)) ∧ ∀ i A, L[i]? = some A → ∃ va, AdrIs lo w A va ∧ ∀ j u, va[j]? = some u → cells[4 * i + j]? = some u

section
variable {w w' : World} {b k : Nat} {src : ByteArray}
set_option maxHeartbeats 1000000 in
theorem address_pat {e : Nat} {Q : Nat → World → Prop} {txt : ByteArray} (hr : Cur w b src k) (hd : isD src k = false) (h36 : saw src k 36 = false) (h : PatOk src k e Q txt) :
    Calls Tryz.prog 136 #[.pointer (some ⟨b, 0, none⟩)] w fun r w' => ∃ v, r = .returned (.agg v.toArray) ∧ AdrIs w.heap.size w' (.pat Q txt) v ∧ Cur w' b src e ∧ Mv b w w' := by
  have H := hid h
  clear h
  have hA := hr.keep (Kp.alloc [] w (.cells (adrV 0 0).toArray 120)) (by simp)
  have hlt := hr.lt
  have mA : Mv b w (w.alloc (.cells (adrV 0 0).toArray 120)) := Mv.alloc hlt _
  have B0 := hid (Bl.alloc w (adrV 0 0) 120)
  go_enter Tryz.func136, Tryz.ntmps136
  go_wp2_with fail
  refine (digit_c hA hd).mono ?_
  rintro r w1 ⟨rfl, h1, m1⟩
  go_wp2_with fail
  refine (take_v 36 h1 h36).mono ?_
  rintro r w2 ⟨rfl, h2, m2⟩
  go_wp2_with fail
  refine (H.out _ _ h2).mono ?_
  rintro r w3 ⟨pb, g, o1, o2, rfl, p1, p2, p3, p4, p5, h3, m3⟩
  have m13 := m1.trans (m2.trans m3)
  have B2 := B0.out.keep m13.kp (by simp; omega)
  have e0 := B2.at_ 0 _ rfl
  have e1 := B2.at_ 1 _ rfl
  have e2 := B2.at_ 2 _ rfl
  have e3 := B2.at_ 3 _ rfl
  have f0 := B2.free 0
  have f1 := B2.free 1
  have f2 := B2.free 2
  have f3 := B2.free 3
  have HP := hid (And.intro p1 (And.intro p2 (And.intro p3 (And.intro p4 p5))))
  clear p1 p2 p3 p4 p5
  go_wp2_with fail
  have B3 : Bl (w3.setCells w.heap.size 0 (adrP pb txt)) w.heap.size (adrP pb txt) := B2.put rfl
  have k3 : Kp [w.heap.size] w3 (w3.setCells w.heap.size 0 (adrP pb txt)) := kp_setCells (by simp) _ _ _
  obtain ⟨p1, p2, p3, p4, p5⟩ := HP.out
  have z2 : w.heap.size < w2.heap.size := by
    have := (m1.trans m2).kp.size
    simp at this
    omega
  refine bodyPost_ret (res_row (p := 2) (ty := 120) (by rw [Tryz.results136]) _ _ w.heap.size 0 rfl _ _ B3.range Tryz.underlying120 rfl (by rw [Tryz.szAddress]; rfl)) rfl ⟨_, rfl, ⟨pb, g, o1, o2, rfl, (k3.block pb (lt_blk p1) (by simp; omega)).trans p1, (k3.block g (lt_blk p2) (by simp; omega)).trans p2, by omega, by omega, p5⟩, h3.keep k3 (by simp; omega), (mA.trans m13).fresh k3 (Nat.le_refl _) hlt⟩
theorem address_v {e : Nat} {A : Adr} (hr : Cur w b src k) (h : A.ok src k e) :
    Calls Tryz.prog 136 #[.pointer (some ⟨b, 0, none⟩)] w fun r w' => ∃ v, r = .returned (.agg v.toArray) ∧ AdrIs w.heap.size w' A v ∧ Cur w' b src e ∧ Mv b w w' := by
  cases A with
  | num x => obtain ⟨h1, n, h2⟩ := h; exact (address_num hr h1 h2).mono fun r w' ⟨q1, q2⟩ => ⟨_, q1, rfl, q2⟩
  | last => obtain ⟨h1, h2, rfl⟩ := h; exact (address_last hr h1 h2).mono fun r w' ⟨q1, q2⟩ => ⟨_, q1, rfl, q2⟩
  | pat Q txt => obtain ⟨h1, h2, _, h3⟩ := h; exact address_pat hr h1 h2 h3
theorem isA_of {A : Adr} {e : Nat} (h : A.ok src k e) : isA src k = true := by
  cases A with
  | num x => simp [isA, h.1]
  | last => simp [isA, h.2.1]
  | pat Q txt => simp [isA, h.2.2.1]

theorem addresses_none (hr : Cur w b src k) (h : isA src k = false) :
    Calls Tryz.prog 118 #[.pointer (some ⟨b, 0, none⟩)] w fun r w' => r = .returned (.slice none 0 0) ∧ Cur w' b src k ∧ Mv b w w' := by
  go_enter Tryz.func118, Tryz.ntmps118
  go_wp2_with fail
  refine (seesAddress_v hr h).mono ?_
  rintro r w1 ⟨rfl, h1, m1⟩
  go_wp2_with fail
  go_ret
  exact ⟨rfl, h1, m1⟩

set_option maxHeartbeats 1000000 in
theorem addresses_one {e : Nat} {A : Adr} (hr : Cur w b src k) (h : A.ok src k e) (hc : saw src e 44 = false) :
    Calls Tryz.prog 118 #[.pointer (some ⟨b, 0, none⟩)] w fun r w' => ∃ v, r = .returned v ∧ AdrsAt w.heap.size w' v [A] ∧ (∀ p, v.ownBlock = some p → w.heap.size ≤ p) ∧ Cur w' b src e ∧ Mv b w w' := by
  have HA := hid (isA_of h)
  have H := hid h
  have hlt := hr.lt
  clear h
  go_enter Tryz.func118, Tryz.ntmps118
  go_wp2_with fail
  refine (seesAddress_v hr HA.out).mono ?_
  rintro r w1 ⟨rfl, h1, m1⟩
  go_wp2_with fail
  refine (address_v h1 H.out).mono ?_
  rintro r w2 ⟨va, rfl, hva, h2, m2⟩
  obtain ⟨x0, x1, x2, x3, rfl, _⟩ := hva.four
  have HVA := hid hva
  clear hva
  go_wp2_with fail
  refine (take_v 44 (h2.keep (Kp.alloc [] w2 _) (by simp)) hc).mono ?_
  rintro r w3 ⟨rfl, h3, m3⟩
  go_wp2_with fail
  go_ret
  have m12 := m1.trans m2
  have mA : Mv b w2 (w2.alloc (.cells #[x0, x1, x2, x3] 120)) := Mv.alloc h2.lt _
  have hh : (w2.alloc (.cells #[x0, x1, x2, x3] 120)).heap[w2.heap.size]? = some (.cells #[x0, x1, x2, x3] 120) := by show (w2.heap.push _)[w2.heap.size]? = _; simp
  have hne : w2.heap.size ≠ b := by have := h2.lt; omega
  refine ⟨_, rfl, .inr ⟨w2.heap.size, 1, #[x0, x1, x2, x3], rfl, (m3.kp.block _ (by simp) (by simpa using hne)).trans hh, fun i B hi => ?_⟩, fun p hp => ?_, h3, m12.trans (mA.trans m3)⟩
  · match i, hi with
    | 0, hi =>
      injection hi with hi
      subst hi
      have z1 := m1.kp.size
      exact ⟨_, ((HVA.out.keep (Kp.alloc [] w2 (.cells #[x0, x1, x2, x3] 120)) (by simp)).keep m3.kp (fun x hx => .inl (by simp at hx; omega))).lower z1, fun j u hu => by simpa using hu⟩
  · injection hp with hp
    subst hp
    exact m12.kp.size

set_option maxHeartbeats 2000000 in
theorem addresses_two {e1 e : Nat} {A B : Adr} (hr : Cur w b src k) (h : A.ok src k e1) (hc : saw src e1 44 = true) (h' : B.ok src (e1 + 1) e) :
    Calls Tryz.prog 118 #[.pointer (some ⟨b, 0, none⟩)] w fun r w' => ∃ v, r = .returned v ∧ AdrsAt w.heap.size w' v [A, B] ∧ (∀ p, v.ownBlock = some p → w.heap.size ≤ p) ∧ Cur w' b src e ∧ Mv b w w' := by
  have HA := hid (isA_of h)
  have H := hid h
  have H' := hid h'
  have hlt := hr.lt
  obtain ⟨i0, hi, hz0, hz1, hz2⟩ := info_parts Tryz.infoAddress
  have HI := hid (And.intro hi (And.intro hz0 (And.intro hz1 hz2)))
  clear h h' hi hz0 hz1 hz2
  go_enter Tryz.func118, Tryz.ntmps118
  go_wp2_with fail
  refine (seesAddress_v hr HA.out).mono ?_
  rintro r w1 ⟨rfl, h1, m1⟩
  go_wp2_with fail
  refine (address_v h1 H.out).mono ?_
  rintro r w2 ⟨va, rfl, hva, h2, m2⟩
  obtain ⟨x0, x1, x2, x3, rfl, _⟩ := hva.four
  have HVA := hid hva
  clear hva
  go_wp2_with fail
  refine (take_v 44 (h2.keep (Kp.alloc [] w2 _) (by simp)) hc).mono ?_
  rintro r w3 ⟨rfl, h3, m3⟩
  go_wp2_with fail
  refine (address_v h3 H'.out).mono ?_
  rintro r w4 ⟨vb, rfl, hvb, h4, m4⟩
  obtain ⟨y0, y1, y2, y3, rfl, ho'⟩ := hvb.four
  have HO' := hid ho'
  have HVB := hid hvb
  clear hvb ho'
  have m12 := m1.trans m2
  have mA : Mv b w2 (w2.alloc (.cells #[x0, x1, x2, x3] 120)) := Mv.alloc h2.lt _
  have hh : (w2.alloc (.cells #[x0, x1, x2, x3] 120)).heap[w2.heap.size]? = some (.cells #[x0, x1, x2, x3] 120) := by show (w2.heap.push _)[w2.heap.size]? = _; simp
  have hne : w2.heap.size ≠ b := by have := h2.lt; omega
  have m34 := m3.trans m4
  have hh4 : w4.heap[w2.heap.size]? = some (.cells #[x0, x1, x2, x3] 120) := (m34.kp.block _ (by simp) (by simpa using hne)).trans hh
  have ow : w4.ownsRow w2.heap.size 120 4 (.slice (some ⟨w2.heap.size, 0, none⟩) 1 1) 1 [x0, x1, x2, x3] :=
    ⟨rfl, .inr ⟨w2.heap.size, 1, #[x0, x1, x2, x3], rfl, Nat.le_refl _, hh4, Nat.le_refl _, by simp [maxLen], rfl, rfl⟩⟩
  have hsz : w2.heap.size < w4.heap.size := lt_blk hh4
  have OW := hid (own_block (w' := w4.alloc (.cells #[y0, y1, y2, y3] 120)) ow (fun p hp => (Kp.alloc [] w4 _).block p (own_lt ow hp).2 (by simp)))
  clear ow hh hh4
  have BN := hid (Bl.alloc w4 [y0, y1, y2, y3] 120)
  go_wp2_with (at_builtin; refine wpList_app rfl _ _ 86 rfl w2.heap.size 120 i0 (.agg (adrV 0 0).toArray) 4 40 Tryz.underlying86 HI.out.1 HI.out.2.1 HI.out.2.2.1 HI.out.2.2.2 rfl (by decide) (.slice (some ⟨w2.heap.size, 0, none⟩) 1 1) 1 _ rfl OW.out ⟨w4.heap.size, 0, none⟩ 1 1 [y0, y1, y2, y3] rfl rfl (fun j u hu => by rw [Addr.add_mid, Nat.zero_add]; exact BN.out.at_ j u hu) HO'.out (by simp [maxLen]) (by omega) (by simp; omega) (by omega) ?_; intro g cap w5 ho5 hg5 hor5)
  go_ret
  have k5 : Kp [w2.heap.size] (w4.alloc (.cells #[y0, y1, y2, y3] 120)) w5 := kp_of_grown hg5 (fun p hp => by injection hp with hp; simp [← hp])
  have m5 : Mv b w (w4.alloc (.cells #[y0, y1, y2, y3] 120)) := m12.trans (mA.trans (m34.trans (Mv.alloc h4.lt _)))
  have mf := m5.fresh k5 m12.kp.size hlt
  refine ⟨_, rfl, .inr ?_, fun p hp => ?_, (h4.keep (Kp.alloc [] w4 _) (by simp)).keep k5 (by simpa using Ne.symm hne), mf⟩
  · rcases ho5.2 with ⟨q, _⟩ | ⟨g', cap', cur, q1, q2, q3, q4, q5, q6, q7⟩
    · simp at q
    · injection q1 with q1 _ q1'
      injection q1 with q1
      injection q1 with q1
      subst q1
      refine ⟨g, cap, cur, rfl, q3, fun i C hi => ?_⟩
      have key : ∀ n u, ([x0, x1, x2, x3] ++ [y0, y1, y2, y3])[n]? = some u → cur[n]? = some u := fun n u hu => by
        rw [← q7, List.getElem?_take] at hu
        split at hu
        · simpa using hu
        · cases hu
      match i, hi with
      | 0, hi =>
        injection hi with hi
        subst hi
        have kA : Kp [b, w2.heap.size] w2 w5 := ((Kp.alloc [] w2 (.cells #[x0, x1, x2, x3] 120)).mono (by simp)).trans ((m34.kp.mono (by simp)).trans (((Kp.alloc [] w4 (.cells #[y0, y1, y2, y3] 120)).mono (by simp)).trans (k5.mono (by simp))))
        have z1 := m1.kp.size
        refine ⟨_, (HVA.out.keep kA (fun x hx => by simp at hx; rcases hx with q | q <;> omega)).lower z1, fun j u hu => key _ _ ?_⟩
        rw [List.getElem?_append_left (by have := (List.getElem?_eq_some_iff.1 hu).1; simp at this ⊢; omega)]
        simpa using hu
      | 1, hi =>
        injection hi with hi
        subst hi
        have z3 := m3.kp.size
        have z1 := m12.kp.size
        simp at z3
        refine ⟨_, ((HVB.out.keep (Kp.alloc [] w4 (.cells #[y0, y1, y2, y3] 120)) (by simp)).keep k5 (fun x hx => .inl (by simp at hx; omega))).lower (by omega), fun j u hu => key _ _ ?_⟩
        rw [List.getElem?_append_right (by simp)]
        simpa using hu
  · have hp' : g = p := by simpa [Value.ownBlock] using hp
    subst hp'
    have s4 := m34.kp.size
    have s2 := m12.kp.size
    rcases hor5 with q | q
    · have : w2.heap.size = g := by simpa [Value.ownBlock] using q
      omega
    · simp at q s4
      omega
end
end Go.Proofs.YtonnimbcekhbgaaGreatDoor
