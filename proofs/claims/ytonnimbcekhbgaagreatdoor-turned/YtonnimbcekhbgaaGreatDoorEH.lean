/- The script's reader: the addresses of a command. -/
import Derived.Test.YtonnimbcekhbgaaGreatDoorEG
namespace Go.Proofs.YtonnimbcekhbgaaGreatDoor
open Go.RowKit

/-- An address. -/
inductive Adr
  | num (x : Nat)
  | last
def Adr.v : Adr → List Value
  | .num x => adrV 0 x
  | .last => adrV 1 0
def Adr.ok (src : ByteArray) (k e : Nat) : Adr → Prop
  | .num x => isD src k = true ∧ ∃ n, numN src 1 1000000 k n 0 k = some (x, e)
  | .last => isD src k = false ∧ saw src k 36 = true ∧ e = k + 1
theorem Tryz.infoAddress : (Tryz.prog.info? 120).map (fun i => (i.zero, i.size, i.bytes)) = some (some (.agg (adrV 0 0).toArray), 4, 40) := by kernel_rfl
theorem Adr.v_len (A : Adr) : A.v.length = 4 := by cases A <;> rfl
theorem Adr.v_one (A : Adr) : ∀ u ∈ A.v, u.oneCell' = true := by
  cases A <;> (intro u hu; simp [Adr.v, adrV] at hu; rcases hu with rfl | rfl | rfl | rfl <;> rfl)

theorem Adr.v_four (A : Adr) : ∃ x0 x1 x2 x3, A.v = [x0, x1, x2, x3] := by cases A <;> exact ⟨_, _, _, _, rfl⟩

theorem kp_of_grown {w w' : World} {o : Option Nat} {S : List Nat} (h : w.grownBy w' o) (hS : ∀ p, o = some p → p ∈ S) : Kp S w w' :=
  ⟨h.os, h.tape, h.output, h.size, fun k hk hn => h.block k hk (fun e => hn (hS k (by first | exact e | exact e.symm)))⟩

/-- Addresses in memory. -/
def AdrsAt (w : World) (v : Value) (L : List Adr) : Prop :=
  (L = [] ∧ v = .slice none 0 0) ∨ ∃ p c cells, v = .slice (some ⟨p, 0, none⟩) L.length c ∧ w.heap[p]? = some (.cells cells 120 (0, 0)) ∧ ∀ i A, L[i]? = some A → ∀ j u, A.v[j]? = some u → cells[4 * i + j]? = some u

section
variable {w w' : World} {b k : Nat} {src : ByteArray}
theorem address_v {e : Nat} {A : Adr} (hr : Cur w b src k) (h : A.ok src k e) :
    Calls Tryz.prog 136 #[.pointer (some ⟨b, 0, none⟩)] w fun r w' => r = .returned (.agg A.v.toArray) ∧ Cur w' b src e ∧ Mv b w w' := by
  cases A with
  | num x => obtain ⟨h1, n, h2⟩ := h; exact address_num hr h1 h2
  | last => obtain ⟨h1, h2, rfl⟩ := h; exact address_last hr h1 h2
theorem isA_of {A : Adr} {e : Nat} (h : A.ok src k e) : isA src k = true := by
  cases A with
  | num x => simp [isA, h.1]
  | last => simp [isA, h.2.1]

theorem addresses_none (hr : Cur w b src k) (h : isA src k = false) :
    Calls Tryz.prog 118 #[.pointer (some ⟨b, 0, none⟩)] w fun r w' => r = .returned (.slice none 0 0) ∧ Cur w' b src k ∧ Mv b w w' := by
  go_enter Tryz.func118, Tryz.ntmps118
  go_wp2_with fail
  refine (seesAddress_v hr h).mono ?_
  rintro r w1 ⟨rfl, h1, m1⟩
  go_wp2_with fail
  go_ret
  exact ⟨rfl, h1, m1⟩

set_option maxHeartbeats 1000000 in
theorem addresses_one {e : Nat} {A : Adr} (hr : Cur w b src k) (h : A.ok src k e) (hc : saw src e 44 = false) :
    Calls Tryz.prog 118 #[.pointer (some ⟨b, 0, none⟩)] w fun r w' => ∃ v, r = .returned v ∧ AdrsAt w' v [A] ∧ (∀ p, v.ownBlock = some p → w.heap.size ≤ p) ∧ Cur w' b src e ∧ Mv b w w' := by
  have HA := hid (isA_of h)
  have H := hid h
  obtain ⟨x0, x1, x2, x3, hv⟩ := A.v_four
  have HV := hid hv
  have hlt := hr.lt
  clear h hv
  go_enter Tryz.func118, Tryz.ntmps118
  go_wp2_with fail
  refine (seesAddress_v hr HA.out).mono ?_
  rintro r w1 ⟨rfl, h1, m1⟩
  go_wp2_with fail
  refine (address_v h1 H.out).mono ?_
  rintro r w2 ⟨rfl, h2, m2⟩
  rw [HV.out]
  go_wp2_with fail
  refine (take_v 44 (h2.keep (Kp.alloc [] w2 _) (by simp)) hc).mono ?_
  rintro r w3 ⟨rfl, h3, m3⟩
  go_wp2_with fail
  go_ret
  have m12 := m1.trans m2
  have mA : Mv b w2 (w2.alloc (.cells #[x0, x1, x2, x3] 120)) := Mv.alloc h2.lt _
  have hh : (w2.alloc (.cells #[x0, x1, x2, x3] 120)).heap[w2.heap.size]? = some (.cells #[x0, x1, x2, x3] 120) := by show (w2.heap.push _)[w2.heap.size]? = _; simp
  have hne : w2.heap.size ≠ b := by have := h2.lt; omega
  refine ⟨_, rfl, .inr ⟨w2.heap.size, 1, #[x0, x1, x2, x3], rfl, (m3.kp.block _ (by simp) (by simpa using hne)).trans hh, fun i B hi j u hu => ?_⟩, fun p hp => ?_, h3, m12.trans (mA.trans m3)⟩
  · match i, hi with
    | 0, hi =>
      injection hi with hi
      subst hi
      rw [HV.out] at hu
      simpa using hu
  · injection hp with hp
    subst hp
    exact m12.kp.size

set_option maxHeartbeats 2000000 in
theorem addresses_two {e1 e : Nat} {A B : Adr} (hr : Cur w b src k) (h : A.ok src k e1) (hc : saw src e1 44 = true) (h' : B.ok src (e1 + 1) e) :
    Calls Tryz.prog 118 #[.pointer (some ⟨b, 0, none⟩)] w fun r w' => ∃ v, r = .returned v ∧ AdrsAt w' v [A, B] ∧ (∀ p, v.ownBlock = some p → w.heap.size ≤ p) ∧ Cur w' b src e ∧ Mv b w w' := by
  have HA := hid (isA_of h)
  have H := hid h
  have H' := hid h'
  obtain ⟨x0, x1, x2, x3, hv⟩ := A.v_four
  obtain ⟨y0, y1, y2, y3, hv'⟩ := B.v_four
  have HV := hid hv
  have HV' := hid hv'
  have HO : Hid (∀ u ∈ [x0, x1, x2, x3], u.oneCell' = true) := hid (by rw [← hv]; exact A.v_one)
  have HO' : Hid (∀ u ∈ [y0, y1, y2, y3], u.oneCell' = true) := hid (by rw [← hv']; exact B.v_one)
  have hlt := hr.lt
  obtain ⟨i0, hi, hz0, hz1, hz2⟩ := info_parts Tryz.infoAddress
  have HI := hid (And.intro hi (And.intro hz0 (And.intro hz1 hz2)))
  clear h h' hv hv' hi hz0 hz1 hz2
  go_enter Tryz.func118, Tryz.ntmps118
  go_wp2_with fail
  refine (seesAddress_v hr HA.out).mono ?_
  rintro r w1 ⟨rfl, h1, m1⟩
  go_wp2_with fail
  refine (address_v h1 H.out).mono ?_
  rintro r w2 ⟨rfl, h2, m2⟩
  rw [HV.out]
  go_wp2_with fail
  refine (take_v 44 (h2.keep (Kp.alloc [] w2 _) (by simp)) hc).mono ?_
  rintro r w3 ⟨rfl, h3, m3⟩
  go_wp2_with fail
  refine (address_v h3 H'.out).mono ?_
  rintro r w4 ⟨rfl, h4, m4⟩
  rw [HV'.out]
  have m12 := m1.trans m2
  have mA : Mv b w2 (w2.alloc (.cells #[x0, x1, x2, x3] 120)) := Mv.alloc h2.lt _
  have hh : (w2.alloc (.cells #[x0, x1, x2, x3] 120)).heap[w2.heap.size]? = some (.cells #[x0, x1, x2, x3] 120) := by show (w2.heap.push _)[w2.heap.size]? = _; simp
  have hne : w2.heap.size ≠ b := by have := h2.lt; omega
  have m34 := m3.trans m4
  have hh4 : w4.heap[w2.heap.size]? = some (.cells #[x0, x1, x2, x3] 120) := (m34.kp.block _ (by simp) (by simpa using hne)).trans hh
  have ow : w4.ownsRow w2.heap.size 120 4 (.slice (some ⟨w2.heap.size, 0, none⟩) 1 1) 1 [x0, x1, x2, x3] :=
    ⟨rfl, .inr ⟨w2.heap.size, 1, #[x0, x1, x2, x3], rfl, Nat.le_refl _, hh4, Nat.le_refl _, by simp [maxLen], rfl, rfl⟩⟩
  have hsz : w2.heap.size < w4.heap.size := lt_blk hh4
  have OW := hid (own_block (w' := w4.alloc (.cells #[y0, y1, y2, y3] 120)) ow (fun p hp => (Kp.alloc [] w4 _).block p (own_lt ow hp).2 (by simp)))
  clear ow hh hh4
  have BN := hid (Bl.alloc w4 [y0, y1, y2, y3] 120)
  go_wp2_with (at_builtin; refine wpList_app rfl _ _ 86 rfl w2.heap.size 120 i0 (.agg (adrV 0 0).toArray) 4 40 Tryz.underlying86 HI.out.1 HI.out.2.1 HI.out.2.2.1 HI.out.2.2.2 rfl (by decide) (.slice (some ⟨w2.heap.size, 0, none⟩) 1 1) 1 _ rfl OW.out ⟨w4.heap.size, 0, none⟩ 1 1 [y0, y1, y2, y3] rfl rfl (fun j u hu => by rw [Addr.add_mid, Nat.zero_add]; exact BN.out.at_ j u hu) HO'.out (by simp [maxLen]) (by omega) (by simp; omega) (by omega) ?_; intro g cap w5 ho5 hg5 hor5)
  go_ret
  have k5 : Kp [w2.heap.size] (w4.alloc (.cells #[y0, y1, y2, y3] 120)) w5 := kp_of_grown hg5 (fun p hp => by injection hp with hp; simp [← hp])
  have m5 : Mv b w (w4.alloc (.cells #[y0, y1, y2, y3] 120)) := m12.trans (mA.trans (m34.trans (Mv.alloc h4.lt _)))
  have mf := m5.fresh k5 m12.kp.size hlt
  refine ⟨_, rfl, .inr ?_, fun p hp => ?_, (h4.keep (Kp.alloc [] w4 _) (by simp)).keep k5 (by simpa using Ne.symm hne), mf⟩
  · rcases ho5.2 with ⟨q, _⟩ | ⟨g', cap', cur, q1, q2, q3, q4, q5, q6, q7⟩
    · simp at q
    · injection q1 with q1 _ q1'
      injection q1 with q1
      injection q1 with q1
      subst q1
      refine ⟨g, cap, cur, rfl, q3, fun i C hi j u hu => ?_⟩
      have key : ∀ n u, ([x0, x1, x2, x3] ++ [y0, y1, y2, y3])[n]? = some u → cur[n]? = some u := fun n u hu => by
        rw [← q7, List.getElem?_take] at hu
        split at hu
        · simpa using hu
        · cases hu
      match i, hi with
      | 0, hi =>
        injection hi with hi
        subst hi
        rw [HV.out] at hu
        refine key _ _ ?_
        rw [List.getElem?_append_left (by have := (List.getElem?_eq_some_iff.1 hu).1; simp at this ⊢; omega)]
        simpa using hu
      | 1, hi =>
        injection hi with hi
        subst hi
        rw [HV'.out] at hu
        refine key _ _ ?_
        rw [List.getElem?_append_right (by simp)]
        simpa using hu
  · have hp' : g = p := by simpa [Value.ownBlock] using hp
    subst hp'
    have s4 := m34.kp.size
    have s2 := m12.kp.size
    rcases hor5 with q | q
    · have : w2.heap.size = g := by simpa [Value.ownBlock] using q
      omega
    · simp at q s4
      omega
end
end Go.Proofs.YtonnimbcekhbgaaGreatDoor
