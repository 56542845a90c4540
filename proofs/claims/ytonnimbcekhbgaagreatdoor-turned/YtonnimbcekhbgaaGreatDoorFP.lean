/- The law's helpers: lines, and the whole of them. -/
import Derived.Test.YtonnimbcekhbgaaGreatDoorFO
import Derived.Test.YtonnimbcekhbgaaGreatDoorFL
import Derived.Test.YtonnimbcekhbgaaGreatDoorFH
namespace Go.Proofs.YtonnimbcekhbgaaGreatDoor
open Go.RowKit

/-- A line of the law's. -/
def LineOk (l : List UInt8) : Prop := l.length ≤ 107 ∧ ∀ u ∈ l, u = 97 ∨ u = 98 ∨ u = 99 ∨ u = 32
theorem LineOk.no10 {l : List UInt8} (h : LineOk l) : (10 : UInt8) ∉ l := fun e => by
  have := h.2 10 e
  revert this; decide

/-- Lines in memory. -/
structure Lns (lo : Nat) (w : World) (v : Value) (ls : List (List UInt8)) : Prop where
  own : w.ownsRow lo 9 1 v ls.length (ls.map fun l => Value.string (ba l))
  ok : ∀ l ∈ ls, LineOk l
theorem Lns.keep {lo : Nat} {w w' : World} {v : Value} {ls : List (List UInt8)} (h : Lns lo w v ls) (k : Kp [] w w') : Lns lo w' v ls :=
  ⟨own_block h.own (fun p hp => k.block p (own_lt h.own hp).2 (by simp)), h.ok⟩
theorem Lns.form {lo : Nat} {w : World} {v : Value} {ls : List (List UInt8)} (h : Lns lo w v ls) : ∃ A c, v = .slice A ls.length c ∧ ∀ j l, ls[j]? = some l → ∃ g, A = some ⟨g, 0, none⟩ ∧ w.cell? ⟨g, j, none⟩ = some (.string (ba l)) := by
  rcases h.own.2 with ⟨e, e2⟩ | ⟨g, cap, cur, e, _⟩
  · refine ⟨none, 0, by rw [e, e2], fun j l hj => ?_⟩
    have := (List.getElem?_eq_some_iff.1 hj).1
    omega
  · refine ⟨some ⟨g, 0, none⟩, cap, e, fun j l hj => ⟨g, rfl, ?_⟩⟩
    have o := h.own
    rw [e] at o
    have hlt := (List.getElem?_eq_some_iff.1 hj).1
    rw [o.cellAt j (by omega), List.getElem?_map, hj]; rfl

theorem kp_grow {w w4 w5 : World} {v : Value} {n : Nat} {xs : List Value} {e : TypeId} (k : Kp [] w w4) (ow : w4.ownsRow w.heap.size e 1 v n xs) (hg : w4.grownBy w5 v.ownBlock) : Kp [] w w5 := by
  have kg := kp_of_grown (S := v.ownBlock.toList) hg (fun p hp => by rw [hp]; simp)
  have hge : ∀ x, x ∈ (Value.ownBlock v).toList → w.heap.size ≤ x := fun x hx => (own_lt ow (by simpa using hx)).1
  exact ⟨kg.os.trans k.os, kg.tape.trans k.tape, kg.output.trans k.output, Nat.le_trans k.size kg.size, fun q hq hn => (kg.block q (Nat.lt_of_lt_of_le hq k.size) (fun e => by have := hge q e; omega)).trans (k.block q hq hn)⟩

theorem Lns.push {w w3 w5 : World} {v : Value} {ls : List (List UInt8)} {g cap : Nat} {l : List UInt8} {o : Obj} (h : Lns w.heap.size w3 v ls) (ho : w5.ownsRow w.heap.size 9 1 (.slice (some ⟨g, 0, none⟩) (ls.length + 1) cap) (ls.length + 1) ((ls.map fun l => Value.string (ba l)) ++ [.string (ba l)])) (hl : LineOk l) (k : Kp [] w w3) (hg : (w3.alloc o).grownBy w5 v.ownBlock) :
    Lns w.heap.size w5 (.slice (some ⟨g, 0, none⟩) (ls.length + 1) cap) (ls ++ [l]) ∧ Kp [] w w5 := by
  refine ⟨⟨?_, fun x hx => ?_⟩, kp_grow (k.trans (Kp.alloc [] w3 o)) (h.keep (Kp.alloc [] w3 o)).own hg⟩
  · rw [List.length_append, List.map_append]; exact ho
  · rcases List.mem_append.1 hx with q | q
    · exact h.ok x q
    · rw [List.mem_singleton.1 q]; exact hl

theorem lineOk_app {a b : List UInt8} (ha : ∀ u ∈ a, u = 97 ∨ u = 98 ∨ u = 99 ∨ u = 32) (hb : ∀ u ∈ b, u = 97 ∨ u = 98 ∨ u = 99 ∨ u = 32) : ∀ u ∈ a ++ b, u = 97 ∨ u = 98 ∨ u = 99 ∨ u = 32 := fun u hu => by
  rcases List.mem_append.1 hu with q | q
  · exact ha u q
  · exact hb u q

set_option maxRecDepth 100000 in
set_option maxHeartbeats 4000000 in
theorem lines_any (A : Option Addr) (n c : Nat) (z : Nat → Int) (w : World) (hn : n < 9223372036854775808) (hz : NumsIn w A n z) :
    Calls Tryz.prog 8 #[.slice A n c] w fun e w' => ∃ v ls, e = .returned v ∧ Lns w.heap.size w' v ls ∧ 1 ≤ ls.length ∧ ls.length ≤ 13 ∧ Kp [] w w' := by
  obtain ⟨i0, hi, hz0, hz1, hz2⟩ := info_parts Tryz.infoStr
  have HI := hid (And.intro hi (And.intro hz0 (And.intro hz1 hz2)))
  have HZ := hid hz
  clear hi hz0 hz1 hz2 hz
  go_enter Tryz.func8, Tryz.ntmps8
  go_wp2_with fail
  go_loopw [3, 4, 5] (fun l s i wr => ∃ (k : Nat) (S : List UInt8) (ls : List (List UInt8)), k ≤ n ∧ i = .int .i64 k ∧ s = .string (ba S) ∧ S.length ≤ 101 ∧ ls.length ≤ 12 ∧ Hid (∀ u ∈ S, u = 97 ∨ u = 98 ∨ u = 99 ∨ u = 32) ∧ Hid (Lns w.heap.size wr l ls) ∧ Kp [] w wr) (fun _ _ i _ => n - (intOf i).toNat)
  case atStart => exact ⟨0, [], [], by omega, rfl, rfl, by simp, by simp, hid (fun u hu => by cases hu), hid ⟨World.ownsRow_nil _ _ _ _, fun l hl => by cases hl⟩, Kp.refl _ _⟩
  case round =>
    obtain ⟨k, S, ls, hk, rfl, rfl, hS, hls, HS, HL, kp⟩ := hrel
    obtain ⟨A', c', ev, hcell⟩ := HL.out.form
    subst ev
    by_cases hkn : k < n
    · by_cases hl12 : ls.length < 12
      · obtain ⟨ad, rfl, hc⟩ := (HZ.out.keep kp).at_ k hkn
        have hb := HZ.out.bd k hkn
        obtain ⟨x, hx⟩ : ∃ x, x = z k := ⟨_, rfl⟩
        rw [← hx] at hc hb
        clear hx
        obtain ⟨k1, hk1⟩ : ∃ k1 : Nat, (k : Int) + 1 = (k1 : Int) := ⟨k + 1, by omega⟩
        have wk := wrap_i64_nat k1 (by omega)
        obtain ⟨t, ht⟩ : ∃ t, x.tmod 3 = t := ⟨_, rfl⟩
        go_wp2_with fail
        refine (word_any x 6 hb.1 hb.2 (by omega) (by omega) _).mono ?_
        rintro e w2 ⟨W, rfl, hW, hW6, k2⟩
        obtain ⟨Wl, rfl⟩ : ∃ Wl, W = ba Wl := ⟨W.data.toList, (ba_of W).symm⟩
        rw [ba_list] at hW
        rw [ba_size] at hW6
        obtain ⟨T, hT⟩ : ∃ T, T = S ++ Wl := ⟨_, rfl⟩
        have happ : ba S ++ ba Wl = ba T := by rw [ba_app, hT]
        have hsz : ¬ 9223372036854775807 < (ba S).size + (ba Wl).size := by rw [ba_size, ba_size]; omega
        have hTl : T.length ≤ 107 := by rw [hT, List.length_append]; omega
        have HTU : Hid (∀ u ∈ T, u = 97 ∨ u = 98 ∨ u = 99 ∨ u = 32) := hid (by
          rw [hT]
          exact lineOk_app HS.out (fun u hu => by rcases hW u hu with q | q | q <;> simp [q]))
        have HLO : Hid (LineOk T) := hid ⟨hTl, HTU.out⟩
        have L2 := hid (HL.out.keep k2)
        have K2 := hid (kp.trans k2)
        have hc2 : w2.cell? (ad.add k) = some (.int .i64 x) := (k2.cell (World.block_lt_of_cell? _ _ hc) (by simp)).trans hc
        have OWN : Hid ((w2.alloc (.cells #[.string (ba T)] 9)).ownsRow w.heap.size 9 1 (.slice A' ls.length c') ls.length (ls.map fun l => Value.string (ba l))) := hid (L2.out.keep (Kp.alloc [] w2 _)).own
        have HSZ : Hid (w.heap.size ≤ (w2.alloc (.cells #[.string (ba T)] 9)).heap.size) := hid (Nat.le_trans K2.out.size (Kp.alloc [] w2 _).size)
        have hts : (ba T).size = T.length := ba_size T
        clear hT hW hcell kp k2 hc HS HL
        cases hq : (t == 0)
        · by_cases h100 : 100 < T.length
          · go_wp2_with (at_builtin; refine wpList_app rfl _ _ 23 rfl w.heap.size 9 i0 (.string ⟨#[]⟩) 1 16 Tryz.underlying23 HI.out.1 HI.out.2.1 HI.out.2.2.1 HI.out.2.2.2 rfl (by decide) (.slice A' ls.length c') ls.length (ls.map fun l => Value.string (ba l)) rfl OWN.out ⟨w2.heap.size, 0, none⟩ 1 1 [.string (ba T)] rfl rfl (fun j u hu => by rw [Addr.add_mid, Nat.zero_add]; exact (Bl.alloc w2 [.string (ba T)] 9).at_ j u hu) (fun u hu => by simp at hu; subst hu; rfl) (by unfold maxLen; omega) (by omega) HSZ.out (by omega) ?_; intro g cap w5 ho hg hor)
            obtain ⟨L5, K5⟩ := L2.out.push ho HLO.out K2.out hg
            go_round
            case rel => exact ⟨k1, [], ls ++ [T], by omega, rfl, rfl, by simp, by simp; omega, hid (fun u hu => by cases hu), hid L5, K5⟩
            case measure => simp [intOf]; omega
          · have hs2 : ¬ 9223372036854775807 < T.length + 1 := by omega
            go_wp2_with fail
            go_round
            case rel => exact ⟨k1, T ++ [32], ls, by omega, rfl, by rw [show (⟨#[32]⟩ : ByteArray) = ba [32] from rfl, ba_app], by simp; omega, by omega, hid (lineOk_app HTU.out (fun u hu => by simp at hu; simp [hu])), L2, K2.out⟩
            case measure => simp [intOf]; omega
        · go_wp2_with (at_builtin; refine wpList_app rfl _ _ 23 rfl w.heap.size 9 i0 (.string ⟨#[]⟩) 1 16 Tryz.underlying23 HI.out.1 HI.out.2.1 HI.out.2.2.1 HI.out.2.2.2 rfl (by decide) (.slice A' ls.length c') ls.length (ls.map fun l => Value.string (ba l)) rfl OWN.out ⟨w2.heap.size, 0, none⟩ 1 1 [.string (ba T)] rfl rfl (fun j u hu => by rw [Addr.add_mid, Nat.zero_add]; exact (Bl.alloc w2 [.string (ba T)] 9).at_ j u hu) (fun u hu => by simp at hu; subst hu; rfl) (by unfold maxLen; omega) (by omega) HSZ.out (by omega) ?_; intro g cap w5 ho hg hor)
          obtain ⟨L5, K5⟩ := L2.out.push ho HLO.out K2.out hg
          go_round
          case rel => exact ⟨k1, [], ls ++ [T], by omega, rfl, rfl, by simp, by simp; omega, hid (fun u hu => by cases hu), hid L5, K5⟩
          case measure => simp [intOf]; omega
      · have OWN : Hid ((wr.alloc (.cells #[.string (ba S)] 9)).ownsRow w.heap.size 9 1 (.slice A' ls.length c') ls.length (ls.map fun l => Value.string (ba l))) := hid (HL.out.keep (Kp.alloc [] wr _)).own
        have HSZ : Hid (w.heap.size ≤ (wr.alloc (.cells #[.string (ba S)] 9)).heap.size) := hid (Nat.le_trans kp.size (Kp.alloc [] wr _).size)
        have KP := hid kp
        clear hcell kp
        go_wp2_with (at_builtin; refine wpList_app rfl _ _ 23 rfl w.heap.size 9 i0 (.string ⟨#[]⟩) 1 16 Tryz.underlying23 HI.out.1 HI.out.2.1 HI.out.2.2.1 HI.out.2.2.2 rfl (by decide) (.slice A' ls.length c') ls.length (ls.map fun l => Value.string (ba l)) rfl OWN.out ⟨wr.heap.size, 0, none⟩ 1 1 [.string (ba S)] rfl rfl (fun j u hu => by rw [Addr.add_mid, Nat.zero_add]; exact (Bl.alloc wr [.string (ba S)] 9).at_ j u hu) (fun u hu => by simp at hu; subst hu; rfl) (by unfold maxLen; omega) (by omega) HSZ.out (by omega) ?_; intro g cap w5 ho hg hor)
        go_ret
        obtain ⟨L5, K5⟩ := HL.out.push ho ⟨by omega, HS.out⟩ KP.out hg
        exact ⟨_, ls ++ [S], rfl, L5, by simp, by simp; omega, K5⟩
    · have OWN : Hid ((wr.alloc (.cells #[.string (ba S)] 9)).ownsRow w.heap.size 9 1 (.slice A' ls.length c') ls.length (ls.map fun l => Value.string (ba l))) := hid (HL.out.keep (Kp.alloc [] wr _)).own
      have HSZ : Hid (w.heap.size ≤ (wr.alloc (.cells #[.string (ba S)] 9)).heap.size) := hid (Nat.le_trans kp.size (Kp.alloc [] wr _).size)
      have KP := hid kp
      clear hcell kp
      go_wp2_with (at_builtin; refine wpList_app rfl _ _ 23 rfl w.heap.size 9 i0 (.string ⟨#[]⟩) 1 16 Tryz.underlying23 HI.out.1 HI.out.2.1 HI.out.2.2.1 HI.out.2.2.2 rfl (by decide) (.slice A' ls.length c') ls.length (ls.map fun l => Value.string (ba l)) rfl OWN.out ⟨wr.heap.size, 0, none⟩ 1 1 [.string (ba S)] rfl rfl (fun j u hu => by rw [Addr.add_mid, Nat.zero_add]; exact (Bl.alloc wr [.string (ba S)] 9).at_ j u hu) (fun u hu => by simp at hu; subst hu; rfl) (by unfold maxLen; omega) (by omega) HSZ.out (by omega) ?_; intro g cap w5 ho hg hor)
      go_ret
      obtain ⟨L5, K5⟩ := HL.out.push ho ⟨by omega, HS.out⟩ KP.out hg
      exact ⟨_, ls ++ [S], rfl, L5, by simp, by simp; omega, K5⟩

/-- The whole of some lines. -/
theorem wh_size (ls : List (List UInt8)) (h : ∀ l ∈ ls, LineOk l) : (wh ls).length ≤ 108 * ls.length := by
  induction ls with
  | nil => simp [wh]
  | cons l ls ih =>
    have h1 := (h l (by simp)).1
    have h2 := ih (fun l hl => h l (by simp [hl]))
    rw [show wh (l :: ls) = (l ++ [10]) ++ wh ls by simp [wh], List.length_append, List.length_append]
    simp; omega

set_option maxRecDepth 100000 in
set_option maxHeartbeats 2000000 in
theorem whole_any {lo : Nat} {w : World} {v : Value} {ls : List (List UInt8)} (h : Lns lo w v ls) (hn : ls.length ≤ 100) :
    Calls Tryz.prog 9 #[v] w fun e w' => e = .returned (.string (ba (wh ls))) ∧ w' = w := by
  obtain ⟨A, c, ev, hcell⟩ := h.form
  subst ev
  have HC := hid hcell
  have HH := hid h
  clear hcell h
  go_enter Tryz.func9, Tryz.ntmps9
  go_wp2_with fail
  go_loopw [3, 4] (fun s i wr => ∃ k : Nat, k ≤ ls.length ∧ i = .int .i64 k ∧ s = .string (ba (wh (ls.take k))) ∧ wr = w) (fun _ i _ => ls.length - (intOf i).toNat)
  case atStart => exact ⟨0, by omega, rfl, rfl, rfl⟩
  case round =>
    obtain ⟨k, hk, rfl, rfl, rfl⟩ := hrel
    by_cases hkn : k < ls.length
    · obtain ⟨l, hl⟩ : ∃ l, ls[k]? = some l := ⟨_, List.getElem?_eq_getElem hkn⟩
      obtain ⟨g, rfl, hc⟩ := HC.out k l hl
      obtain ⟨k1, hk1⟩ : ∃ k1 : Nat, (k : Int) + 1 = (k1 : Int) := ⟨k + 1, by omega⟩
      have wk := wrap_i64_nat k1 (by omega)
      obtain ⟨S, hS⟩ : ∃ S, S = wh (ls.take k) := ⟨_, rfl⟩
      have hSl : S.length ≤ 10800 := by
        rw [hS]
        have := wh_size (ls.take k) (fun l hl => HH.out.ok l (List.mem_of_mem_take hl))
        rw [List.length_take] at this
        omega
      have hll := (HH.out.ok l (List.mem_of_getElem? hl)).1
      have ap1 : ba S ++ ba l = ba (S ++ l) := ba_app _ _
      have z1 : ¬ 9223372036854775807 < S.length + l.length := by omega
      have zs := ba_size S
      have zl := ba_size l
      have zsl : (ba (S ++ l)).size = S.length + l.length := by rw [ba_size, List.length_append]
      have z2 : ¬ 9223372036854775807 < S.length + l.length + 1 := by omega
      rw [← hS]
      have HL := hid hl
      have HS := hid hS
      clear hl hS
      go_wp2_with fail
      go_round
      case rel =>
        refine ⟨k1, by omega, rfl, ?_, by trivial⟩
        have e : k1 = k + 1 := by omega
        rw [e, List.take_add_one, HL.out, Option.toList_some, show wh (ls.take k ++ [l]) = wh (ls.take k) ++ (l ++ [10]) by simp [wh], ← HS.out, show (⟨#[10]⟩ : ByteArray) = ba [10] from rfl, ba_app, List.append_assoc]
      case measure => simp [intOf]; omega
    · have e : k = ls.length := by omega
      subst e
      go_wp2_with fail
      go_ret
      exact ⟨by rw [List.take_length]; rfl, rfl⟩
end Go.Proofs.YtonnimbcekhbgaaGreatDoor
