/- A row of pieces, the one branch of a pattern, and the whole: contracts. -/
import Derived.Test.YtanpiomfnbiilaaDoorRA
import Derived.Test.YtanpiomfnbiilaaDoorGM
namespace Go.Proofs.YtanpiomfnbiilaaDoor
open Go.RowKit

set_option maxRecDepth 100000 in
set_option maxHeartbeats 1000000 in
theorem branch_row {b : Nat} {src : ByteArray} {k g : Nat} {vs : List Value} {w : World} (hr : Rd w b src k g) (hw : Nm w) (hb0 : b ≠ 0) (hp : RowOk b src g k vs) (hlen : vs.length ≤ 1000) :
    Calls Tryd.prog 32 #[.pointer (some ⟨b, 0, none⟩)] w fun e w' => ∃ v, e = .returned (.iface 94 v) ∧ w'.ownsRow w.heap.size 61 1 v vs.length vs ∧ Rd w' b src src.size g ∧ Kp [b] w w' := by
  have HB : Hid (0 ∉ [b]) := hid (by simpa using Ne.symm hb0)
  have hbl := hr.lt
  obtain ⟨i0, hi, hz0, hz1, hz2⟩ := info_parts Tryd.infoNode
  have HI := hid (And.intro hi (And.intro hz0 (And.intro hz1 hz2)))
  clear hi hz0 hz1 hz2
  have HP := hid hp
  have HR := hid hr
  clear hp hr
  go_enter Tryd.func32, Tryd.ntmps32
  go_wp2_with fail
  go_loopw [3] (fun v wr => ∃ (k' : Nat) (done rest : List Value), vs = done ++ rest ∧ wr.ownsRow w.heap.size 61 1 v done.length done ∧ Rd wr b src k' g ∧ Kp [b] w wr ∧ RowOk b src g k' rest) (fun _ wr => 3000 - atOf wr b)
  case atStart => exact ⟨k, [], vs, rfl, World.ownsRow_nil _ _ _ _, HR.out, Kp.refl _ _, HP.out⟩
  case round =>
    obtain ⟨k', done, rest, hvs, own, rd, kp, rok⟩ := hrel
    have OWN := hid own
    have hsm := rd.small
    cases rest with
    | nil =>
      have hk' : k' = src.size := rok
      have he2 : ((k' : Int) == (src.size : Int)) = true := by simp; omega
      have HV := hid hvs
      have HK := hid hk'
      clear hvs hk' rok own HR HP
      go_wp2_with fail
      refine (ended_r rd he2).mono ?_
      rintro e w1 ⟨rfl, r1, k1⟩
      go_wp2_with fail
      go_ret
      refine ⟨_, rfl, ?_, by rw [← HK.out]; exact r1, kp.trans k1⟩
      have hv := HV.out
      rw [List.append_nil] at hv
      rw [hv]
      exact ownsRow_keep OWN.out k1 (fun x hx => by rw [List.mem_singleton.1 hx]; exact hbl)
    | cons pv rest =>
      obtain ⟨hk, h124, h41, ⟨tv, xv, rfl⟩, l, hkl, pok, rok'⟩ := rok
      have he1 : ((k' : Int) == (src.size : Int)) = false := by simp; omega
      have HV := hid (And.intro hvs (And.intro pok rok'))
      have hdl : done.length ≤ 1000 := by rw [hvs, List.length_append] at hlen; omega
      clear hvs pok rok' own HR HP
      go_wp2_with fail
      refine (ended_r rd he1).mono ?_
      rintro e w1 ⟨rfl, r1, k1⟩
      go_wp2_with fail
      refine (sees_r 124 r1 h124).mono ?_
      rintro e w2 ⟨rfl, r2, k2⟩
      go_wp2_with fail
      refine (sees_r 41 r2 h41).mono ?_
      rintro e w3 ⟨rfl, r3, k3⟩
      have k3' : Kp [b] wr w3 := k1.trans (k2.trans k3)
      have hw3 := hw.keep (kp.trans k3') HB.out
      clear r1 r2
      go_wp2_with fail
      refine (HV.out.2.1 _ r3 hw3).mono ?_
      rintro e w4 ⟨rfl, r4, k4⟩
      have kw4 : Kp [b] w w4 := kp.trans (k3'.trans k4)
      have O4 := hid (ownsRow_keep OWN.out (k3'.trans k4) (fun x hx => by rw [List.mem_singleton.1 hx]; exact hbl))
      have hz4 := kw4.size
      clear r3 hw3
      go_wp2_with (at_builtin; refine wpList_append_own _ rfl _ _ 94 rfl w.heap.size 61 i0 .nilIface 1 16 Tryd.underlying94 HI.out.1 HI.out.2.1 HI.out.2.2.1 HI.out.2.2.2 rfl (by decide) _ _ _ rfl (O4.out.alloc _) ⟨w4.heap.size, 0, none⟩ 1 1 [.iface tv xv] rfl rfl ?c1 ?c2 ?c3 ?c4 ?c5 ?_)
      case c1 => exact cell_one_new _ _ _
      case c2 => intro u hu; simp at hu; subst hu; rfl
      case c3 => unfold maxLen; omega
      case c4 => omega
      case c5 => simp; omega
      intro v' w5 hown hgrow _
      have kg := grown_kp hgrow
      have hge : ∀ x, x ∈ (Value.ownBlock _).toList → w.heap.size ≤ x := fun x hx => (O4.out.lt x (by simpa using hx)).1
      have kw5 : Kp [b] w w5 := ⟨kg.os.trans kw4.os, kg.tape.trans kw4.tape, kg.output.trans kw4.output, Nat.le_trans kw4.size (Nat.le_trans (by simp) kg.size), fun q hq hn => (kg.block q (by simp; omega) (fun e => by have := hge q e; omega)).trans (((Kp.alloc [] w4 _).block q (by omega) (by simp)).trans (kw4.block q hq hn))⟩
      have r5 := (r4.keep (Kp.alloc [] w4 (.cells #[.iface tv xv] 61)) (by simp)).keep kg (fun e => by have := hge b e; omega)
      have HD := hid (And.intro hown (And.intro kw5 r5))
      have hat1 := atOf_rd rd
      have hat2 := atOf_rd r5
      have hls := r5.le
      clear hown hgrow kw5 r5 kg hge
      go_wp2_with fail
      refine ⟨⟨l, done ++ [.iface tv xv], rest, by rw [List.append_assoc]; exact HV.out.1, by simpa using HD.out.1, HD.out.2.2, HD.out.2.1, HV.out.2.2⟩, ?_⟩
      rw [hat1, hat2]; omega

set_option maxRecDepth 100000 in
set_option maxHeartbeats 1000000 in
theorem branches_row {b : Nat} {src : ByteArray} {k g : Nat} {vs : List Value} {w : World} (hr : Rd w b src k g) (hw : Nm w) (hb0 : b ≠ 0) (hp : RowOk b src g k vs) (hlen : vs.length ≤ 1000) :
    Calls Tryd.prog 27 #[.pointer (some ⟨b, 0, none⟩)] w fun e w' => ∃ (q : Nat) (v : Value), e = .returned (.iface 90 (.slice (some ⟨q, 0, none⟩) 1 1)) ∧ w.heap.size ≤ q ∧ q < w'.heap.size ∧ w'.cell? ⟨q, 0, none⟩ = some (.iface 94 v) ∧
      w'.ownsRow w.heap.size 61 1 v vs.length vs ∧ Rd w' b src src.size g ∧ Kp [b] w w' := by
  have hs124 : saw src src.size 124 = false := by unfold saw; rw [dif_neg (by omega)]
  have hbl0 := hr.lt
  go_enter Tryd.func27, Tryd.ntmps27
  go_wp2_with fail
  refine (branch_row hr hw hb0 hp hlen).mono ?_
  rintro e w1 ⟨v, rfl, own1, r1, k1⟩
  have hz1 := k1.size
  have hbl := r1.lt
  have O1 := hid own1
  clear hp own1
  go_wp2_with fail
  obtain ⟨o, ho⟩ : ∃ o : Obj, o = .cells #[.iface 94 v] 61 := ⟨_, rfl⟩
  have k2 := Kp.alloc [b] w1 o
  have r2 := r1.keep (Kp.alloc [] w1 o) (by simp)
  have hc : (w1.alloc o).cell? ⟨w1.heap.size, 0, none⟩ = some (.iface 94 v) := by rw [ho]; simp
  have hz2 : (w1.alloc o).heap.size = w1.heap.size + 1 := by simp
  have O2 := hid (O1.out.alloc o)
  rw [← ho]
  generalize w1.alloc o = w2 at *
  clear ho
  refine wp_loop_rounds 1 ?_
  rw [rounds_succ]
  go_wp2_with fail
  refine (take_no 124 r2 hs124).mono ?_
  rintro e w3 ⟨rfl, r3, k3⟩
  have h1 := (k3.cell (p := ⟨w1.heap.size, 0, none⟩) (by rw [hz2]; exact Nat.lt_succ_self _) (by simp; omega)).trans hc
  have O3 := hid (ownsRow_keep O2.out k3 (fun x hx => by rw [List.mem_singleton.1 hx]; exact hbl0))
  have hz3 := k3.size
  clear hc
  go_wp2_with fail
  go_ret
  exact ⟨w1.heap.size, v, rfl, hz1, by omega, h1, O3.out, r3, k1.trans (k2.trans k3)⟩

set_option maxHeartbeats 400000 in
theorem whole_row {b : Nat} {src : ByteArray} {k g : Nat} {vs : List Value} {w : World} (hr : Rd w b src k g) (hw : Nm w) (hb0 : b ≠ 0) (hp : RowOk b src g k vs) (hlen : vs.length ≤ 1000) :
    Calls Tryd.prog 23 #[.pointer (some ⟨b, 0, none⟩)] w fun e w' => ∃ (q : Nat) (v : Value), e = .returned (.iface 90 (.slice (some ⟨q, 0, none⟩) 1 1)) ∧ w.heap.size ≤ q ∧ q < w'.heap.size ∧ w'.cell? ⟨q, 0, none⟩ = some (.iface 94 v) ∧
      w'.ownsRow w.heap.size 61 1 v vs.length vs ∧ Rd w' b src src.size g ∧ Kp [b] w w' := by
  have he2 : ((src.size : Int) == (src.size : Int)) = true := by simp
  have hbl := hr.lt
  go_enter Tryd.func23, Tryd.ntmps23
  go_wp2_with fail
  refine (branches_row hr hw hb0 hp hlen).mono ?_
  rintro e w1 ⟨q, v, rfl, hq1, hq2, hq3, own1, r1, k1⟩
  have O1 := hid own1
  clear hp own1
  go_wp2_with fail
  refine (ended_r r1 he2).mono ?_
  rintro e w2 ⟨rfl, r2, k2⟩
  have h1 := (k2.cell (p := ⟨q, 0, none⟩) hq2 (by simp; omega)).trans hq3
  have O2 := hid (ownsRow_keep O1.out k2 (fun x hx => by rw [List.mem_singleton.1 hx]; exact hbl))
  have hz2 := k2.size
  clear hq3
  go_wp2_with fail
  go_ret
  exact ⟨q, v, rfl, hq1, by omega, h1, O2.out, r2, k1.trans k2⟩
end Go.Proofs.YtanpiomfnbiilaaDoor
