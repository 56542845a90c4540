/- The law on what is told. -/
import Derived.Test.YtonnimbcekhbgaaGreatDoorKBToKF
import Derived.Deep.Cut
import Derived.Deep.CutRange
namespace Go.Proofs.YtonnimbcekhbgaaGreatDoor
open Go.RowKit

abbrev tlT : Nat → List UInt8 → List UInt8 := fun _ L => L ++ [10] ++ (L ++ [10])
abbrev tlN : Nat → List UInt8 → List UInt8 := fun k L => Lib.decDigits k ++ [10] ++ (L ++ [10])
theorem told_snoc (tl : Nat → List UInt8 → List UInt8) (k : Nat) (a : List (List UInt8)) (l : List UInt8) : told tl k (a ++ [l]) = told tl k a ++ tl (k + a.length) l := by
  induction a generalizing k with
  | nil => simp [told]
  | cons x a ih => rw [List.cons_append, told, ih, told, List.append_assoc, List.length_cons, show k + 1 + a.length = k + (a.length + 1) by omega]

theorem Lns.lok {lo : Nat} {w : World} {v : Value} {ls : List (List UInt8)} (h : Lns lo w v ls) (hn : ls.length ≤ 13) : Lok ls := ⟨h.ok, hn⟩
theorem ba_dg (n : Nat) (h : n < 100) : dg n = ba (Lib.decDigits n) := by rw [dig_dg n h, ba_of]

/-- Some of the lines, from the first on. -/
theorem Lns.take {lo : Nat} {w : World} {A : Option Addr} {n c k : Nat} {ls : List (List UInt8)} (h : Lns lo w (.slice A n c) ls) (hk : k ≤ ls.length) (h0 : 0 < k) : Lns lo w (.slice A k c) (ls.take k) := by
  refine ⟨⟨by rw [List.length_map, Nat.mul_one], ?_⟩, fun l hl => h.ok l (List.mem_of_mem_take hl)⟩
  rcases h.own.2 with ⟨e, e2⟩ | ⟨g, cap, cur, e, q2, q3, q4, q5, q6, q7⟩
  · omega
  · injection e with e1 e2 e3
    subst e1 e3
    have hl : (ls.take k).length = k := by rw [List.length_take]; omega
    refine .inr ⟨g, c, cur, by rw [hl], q2, q3, by rw [hl]; omega, q5, q6, ?_⟩
    rw [hl, List.map_take, ← q7, List.take_take]
    congr 1
    omega
theorem Lns.cap {lo : Nat} {w : World} {A : Option Addr} {n c : Nat} {ls : List (List UInt8)} (h : Lns lo w (.slice A n c) ls) : ls.length ≤ c := by
  rcases h.own.2 with ⟨e, e2⟩ | ⟨g, cap, cur, e, q2, q3, q4, q5, q6, q7⟩
  · omega
  · injection e with e1 e2 e3
    omega
theorem wh_cut (B : List (List UInt8)) (M : List UInt8) : (ba (wh (B ++ [M]))).extract 0 (wh B ++ M).length = ba (wh B ++ M) := by
  rw [ba_extract, List.drop_zero, show wh (B ++ [M]) = (wh B ++ M) ++ [10] by simp [wh], List.take_left]

set_option maxRecDepth 100000 in
set_option maxHeartbeats 8000000 in
theorem told_any (A : Option Addr) (n c : Nat) (z : Nat → Int) (x : Int) (w : World) (hn : n < 9223372036854775808) (hz : NumsIn w A n z) (hx1 : -9223372036854775808 ≤ x) (hx2 : x ≤ 9223372036854775807) :
    Calls Tryz.prog 3 #[.slice A n c, .int .i64 x] w fun e w' => e = .returned (.bool true) ∧ Kp [] w w' := by
  go_enter Tryz.func3, Tryz.ntmps3
  go_wp2_with fail
  refine (lines_any A n c z w hn hz).mono ?_
  rintro e w1 ⟨v, ls, rfl, L1, hl1, hl13, k1⟩
  clear hz
  obtain ⟨A1, c1, ev, hcell⟩ := L1.form
  have W1 := hid (whole_any L1 (by omega))
  have HL := hid L1
  have HK := hid k1
  have LOK := hid (L1.lok hl13)
  subst ev
  have HC := hid hcell
  clear hcell L1 k1
  go_wp2_with fail
  refine W1.out.mono ?_
  rintro e w2 ⟨rfl, rfl⟩
  have hwl := LOK.out.size
  go_wp2_with fail
  go_loopw [7, 8, 9, 10] (fun t m i _ wr => ∃ k : Nat, k ≤ ls.length ∧ i = .int .i64 k ∧ t = .string (ba (told tlT 1 (ls.take k))) ∧ m = .string (ba (told tlN 1 (ls.take k))) ∧ Kp [] w2 wr) (fun _ _ i _ _ => ls.length - (intOf i).toNat)
  case atStart => exact ⟨0, by omega, rfl, rfl, rfl, Kp.refl _ _⟩
  case round =>
    obtain ⟨k, hk, rfl, rfl, rfl, kp⟩ := hrel
    by_cases hkn : k < ls.length
    · obtain ⟨l, hl⟩ : ∃ l, ls[k]? = some l := ⟨_, List.getElem?_eq_getElem hkn⟩
      obtain ⟨g, rfl, hc0⟩ := HC.out k l hl
      have hc := (kp.cell (World.block_lt_of_cell? _ _ hc0) (by simp)).trans hc0
      clear hc0
      obtain ⟨k1, hk1⟩ : ∃ k1 : Nat, (k : Int) + 1 = (k1 : Int) := ⟨k + 1, by omega⟩
      have wk := wrap_i64_nat k1 (by omega)
      go_wp2_with fail
      refine (digits_any k1 (by omega) _).mono ?_
      rintro e w3 ⟨rfl, k3⟩
      have hc3 := (k3.cell (World.block_lt_of_cell? _ _ hc) (by simp)).trans hc
      rw [ba_dg k1 (by omega)]
      obtain ⟨D, hD⟩ : ∃ D, D = Lib.decDigits k1 := ⟨_, rfl⟩
      obtain ⟨T, hT⟩ : ∃ T, T = told tlT 1 (ls.take k) := ⟨_, rfl⟩
      obtain ⟨M, hM⟩ : ∃ M, M = told tlN 1 (ls.take k) := ⟨_, rfl⟩
      rw [← hT, ← hM]
      have hTl : T.length ≤ 1000 * 13 := by
        have := told_le (tl := tlT) (N := 1000) (fun _ l _ h => by have := h.1; simp; omega) (ls.take k) 1 (by rw [List.length_take]; omega) (fun l hl => LOK.out.ok l (List.mem_of_mem_take hl))
        rw [← hT, List.length_take] at this
        have : 1000 * min k ls.length ≤ 1000 * 13 := Nat.mul_le_mul_left _ (by omega)
        omega
      have hMl : M.length ≤ 1000 * 13 := by
        have := told_le (tl := tlN) (N := 1000) (fun k l hk h => by have := h.1; have := dig_le k hk; simp; omega) (ls.take k) 1 (by rw [List.length_take]; omega) (fun l hl => LOK.out.ok l (List.mem_of_mem_take hl))
        rw [← hM, List.length_take] at this
        have : 1000 * min k ls.length ≤ 1000 * 13 := Nat.mul_le_mul_left _ (by omega)
        omega
      have hDl : D.length ≤ 2 := by rw [hD]; exact dig_le k1 (by omega)
      have hll := (LOK.out.ok l (List.mem_of_getElem? hl)).1
      rw [← hD]
      have zl := ba_size l
      have zD := ba_size D
      obtain ⟨T1, hT1⟩ : ∃ T1, T1 = T ++ l := ⟨_, rfl⟩
      have aT1 : ba T ++ ba l = ba T1 := by rw [hT1]; exact ba_app T l
      have sT1 := ba_size T
      have lT1 : T1.length = T.length + l.length := by rw [hT1, List.length_append]
      have qT1 : ¬ 9223372036854775807 < T.length + l.length := by omega
      have tT1 := ba_size T1
      obtain ⟨T2, hT2⟩ : ∃ T2, T2 = T1 ++ [10] := ⟨_, rfl⟩
      have aT2 : ba T1 ++ ⟨#[10]⟩ = ba T2 := by rw [hT2]; exact ba_app T1 [10]
      have lT2 : T2.length = T1.length + 1 := by rw [hT2, List.length_append]; rfl
      have qT2 : ¬ 9223372036854775807 < T1.length + 1 := by omega
      have tT2 := ba_size T2
      obtain ⟨T3, hT3⟩ : ∃ T3, T3 = T2 ++ l := ⟨_, rfl⟩
      have aT3 : ba T2 ++ ba l = ba T3 := by rw [hT3]; exact ba_app T2 l
      have lT3 : T3.length = T2.length + l.length := by rw [hT3, List.length_append]
      have qT3 : ¬ 9223372036854775807 < T2.length + l.length := by omega
      have tT3 := ba_size T3
      obtain ⟨T4, hT4⟩ : ∃ T4, T4 = T3 ++ [10] := ⟨_, rfl⟩
      have aT4 : ba T3 ++ ⟨#[10]⟩ = ba T4 := by rw [hT4]; exact ba_app T3 [10]
      have lT4 : T4.length = T3.length + 1 := by rw [hT4, List.length_append]; rfl
      have qT4 : ¬ 9223372036854775807 < T3.length + 1 := by omega
      have tT4 := ba_size T4
      obtain ⟨M1, hM1⟩ : ∃ M1, M1 = M ++ D := ⟨_, rfl⟩
      have aM1 : ba M ++ ba D = ba M1 := by rw [hM1]; exact ba_app M D
      have sM1 := ba_size M
      have lM1 : M1.length = M.length + D.length := by rw [hM1, List.length_append]
      have qM1 : ¬ 9223372036854775807 < M.length + D.length := by omega
      have tM1 := ba_size M1
      obtain ⟨M2, hM2⟩ : ∃ M2, M2 = M1 ++ [10] := ⟨_, rfl⟩
      have aM2 : ba M1 ++ ⟨#[10]⟩ = ba M2 := by rw [hM2]; exact ba_app M1 [10]
      have lM2 : M2.length = M1.length + 1 := by rw [hM2, List.length_append]; rfl
      have qM2 : ¬ 9223372036854775807 < M1.length + 1 := by omega
      have tM2 := ba_size M2
      obtain ⟨M3, hM3⟩ : ∃ M3, M3 = M2 ++ l := ⟨_, rfl⟩
      have aM3 : ba M2 ++ ba l = ba M3 := by rw [hM3]; exact ba_app M2 l
      have lM3 : M3.length = M2.length + l.length := by rw [hM3, List.length_append]
      have qM3 : ¬ 9223372036854775807 < M2.length + l.length := by omega
      have tM3 := ba_size M3
      obtain ⟨M4, hM4⟩ : ∃ M4, M4 = M3 ++ [10] := ⟨_, rfl⟩
      have aM4 : ba M3 ++ ⟨#[10]⟩ = ba M4 := by rw [hM4]; exact ba_app M3 [10]
      have lM4 : M4.length = M3.length + 1 := by rw [hM4, List.length_append]; rfl
      have qM4 : ¬ 9223372036854775807 < M3.length + 1 := by omega
      have tM4 := ba_size M4
      have FT : Hid (T4 = told tlT 1 (ls.take k1)) := hid (by
        have e : k1 = k + 1 := by omega
        rw [e, List.take_add_one, hl, Option.toList_some, told_snoc, ← hT, hT4, hT3, hT2, hT1]
        simp [tlT])
      have FM : Hid (M4 = told tlN 1 (ls.take k1)) := hid (by
        have e : k1 = k + 1 := by omega
        rw [e, List.take_add_one, hl, Option.toList_some, told_snoc, ← hM, hM4, hM3, hM2, hM1, hD, e, List.length_take, show 1 + min k ls.length = k + 1 by omega]
        simp [tlN])
      clear hT hM hD hT1 hT2 hT3 hT4 hM1 hM2 hM3 hM4 hl
      go_wp2_with fail
      go_quiet (fail)
      go_wp2_with fail
      go_round
      case rel => exact ⟨k1, by omega, rfl, by rw [← FT.out], by rw [← FM.out], kp.trans (k3.trans (Kp.drewN _ _ _))⟩
      case measure => simp [intOf]; omega
    · have e : k = ls.length := by omega
      subst e
      rw [List.take_length]
      obtain ⟨p1, p2⟩ := pk_bd x 20 (by omega)
      obtain ⟨K, hK⟩ : ∃ K : Nat, pk x 20 + 1 = (K : Int) := ⟨(pk x 20 + 1).toNat, by omega⟩
      have hK1 : 1 ≤ K ∧ K ≤ 20 := by omega
      have HPK := hid (pick_any x 20 hx1 hx2 (by omega) (by omega) wr)
      obtain ⟨y, hy⟩ : ∃ y, pk x 20 = y := ⟨_, rfl⟩
      rw [hy] at hK HPK
      clear p1 p2 hy
      have wK := wrap_i64_nat K (by omega)
      have LR := hid (HL.out.keep kp)
      have KW := hid (HK.out.trans kp)
      have hcap := HL.out.cap
      clear hkn hk kp
      go_wp2_with fail
      refine HPK.out.mono ?_
      rintro e w3 ⟨rfl, rfl⟩
      go_upto_if 60 with fail
      go_cut [12, 13] from 60 (fun v12 v13 wx => ∃ so st, v12 = .string (ba so) ∧ v13 = .int .i64 (st : Nat) ∧ wx = w3 ∧ Hid (∀ wy, Calls Tryz.prog 12 #[.string (qS K), .string (ba (wh ls)), .string (ba so), .int .i64 (st : Nat)] wy fun r w' => r = .returned (.bool true) ∧ Kp [] wy w'))
      case first =>
        by_cases hKl : K ≤ ls.length
        · have LT := hid (LR.out.take hKl (by omega))
          have WT := hid (whole_any LT.out (by rw [List.length_take]; omega))
          have hKc : K ≤ c1 := by omega
          go_wp2_with fail
          refine WT.out.mono ?_
          rintro e w4 ⟨rfl, rfl⟩
          go_wp2_with fail
          go_meet
          case rel => exact ⟨wh (ls.take K), K, rfl, rfl, rfl, hid (fun wy => doesQ hK1.1 hK1.2 LOK.out hKl)⟩
        · go_wp2_with fail
          go_meet
          case rel => exact ⟨wh ls, 0, rfl, rfl, rfl, hid (fun wy => doesQ0 hK1.1 hK1.2 LOK.out (by omega))⟩
      case rest =>
      obtain ⟨so, st, rfl, rfl, rfl, HQ⟩ := hcut
      obtain ⟨B, M, hBM⟩ : ∃ B M, ls = B ++ [M] := ⟨ls.dropLast, ls.getLast (by intro e; rw [e] at hl1; simp at hl1), (List.dropLast_concat_getLast _).symm⟩
      have hBl : ls.length = B.length + 1 := by rw [hBM]; simp
      have HBM := hid hBM
      have HBL := hid hBl
      clear hBM hBl W1 HC hK wK HPK
      go_wp2_with fail
      refine (doesE LOK.out).mono ?_
      rintro e x1 ⟨rfl, y1⟩
      go_wp2_with fail
      refine (doesN LOK.out).mono ?_
      rintro e x2 ⟨rfl, y2⟩
      go_wp2_with fail
      refine (doesP LOK.out).mono ?_
      rintro e x3 ⟨rfl, y3⟩
      go_wp2_with fail
      refine (doesEq LOK.out).mono ?_
      rintro e x4 ⟨rfl, y4⟩
      go_wp2_with fail
      refine (doesD LOK.out).mono ?_
      rintro e x5 ⟨rfl, y5⟩
      go_wp2_with fail
      refine (doesW LOK.out).mono ?_
      rintro e x6 ⟨rfl, y6⟩
      obtain ⟨m, hm⟩ : ∃ m, (dg K).size = m := ⟨_, rfl⟩
      have hm2 : m ≤ 2 := by rw [← hm, ba_dg K (by omega), ba_size]; exact dig_le K (by omega)
      obtain ⟨E1, hE1⟩ : ∃ E1, dg K ++ (⟨#[113, 32]⟩ : ByteArray) = E1 := ⟨_, rfl⟩
      have hE2 : E1 ++ dg K = qS K := by rw [← hE1]; rfl
      have zE : E1.size = m + 2 := by rw [← hE1, ByteArray.size_append, hm]; rfl
      have z1 : ¬ 9223372036854775807 < m + 2 := by omega
      have z2 : ¬ 9223372036854775807 < m + 2 + m := by omega
      go_wp2_with fail
      refine (digits_any K (by omega) _).mono ?_
      rintro e x7 ⟨rfl, y7⟩
      go_wp2_with fail
      refine (digits_any K (by omega) _).mono ?_
      rintro e x8 ⟨rfl, y8⟩
      go_wp2_with fail
      refine (HQ.out _).mono ?_
      rintro e x9 ⟨rfl, y9⟩
      have KA := hid (y1.trans (y2.trans (y3.trans (y4.trans (y5.trans (y6.trans (y7.trans (y8.trans y9))))))))
      clear y1 y2 y3 y4 y5 y6 y7 y8 y9 HQ hE1 hE2 zE z1 z2 hm hm2
      have KF := hid (KW.out.trans KA.out)
      cases h10 : ((ba (wh ls)).toList == [10])
      · obtain ⟨A2, c2, ev, hcell⟩ := (LR.out.keep KA.out).form
        injection ev with ev1 _ ev2
        subst ev1 ev2
        obtain ⟨g, rfl, hc⟩ := hcell B.length M (by rw [HBM.out]; simp)
        obtain ⟨b, hb⟩ : ∃ b : Nat, b = B.length := ⟨_, rfl⟩
        rw [← hb] at hc
        have hbl : b < ls.length := by have := HBL.out; omega
        have hs1 : (ls.length : Int) - 1 = (b : Int) := by have := HBL.out; omega
        have wb := wrap_i64_nat b (by omega)
        clear hb
        cases hM0 : ((ba M).toList == [])
        · obtain ⟨wl, hwl'⟩ : ∃ wl, (ba (wh ls)).size = wl := ⟨_, rfl⟩
          have e2 : (wh ls).length = (wh B ++ M).length + 1 := by rw [HBM.out, show wh (B ++ [M]) = (wh B ++ M) ++ [10] by simp [wh]]; simp; omega
          obtain ⟨wq, hwq⟩ : ∃ wq : Nat, wq = (wh B ++ M).length := ⟨_, rfl⟩
          have hwlq : wl = wq + 1 := by rw [← hwl', ba_size, e2, hwq]
          have hs2 : (wl : Int) - 1 = (wq : Int) := by omega
          have wq1 := wrap_i64_nat wq (by omega)
          have hq3 : wq ≤ wl := by omega
          have hex : (ba (wh ls)).extract 0 wq = ba (wh B ++ M) := by rw [hwq, HBM.out]; exact wh_cut B M
          have HCUT : Hid (∀ wy, Calls Tryz.prog 12 #[.string ⟨#[]⟩, .string (ba (wh B ++ M)), .string (ba (wh ls)), .int .i64 0] wy fun r w' => r = .returned (.bool true) ∧ Kp [] wy w') := hid (fun wy => by
            have hl' := LOK.out
            rw [HBM.out] at hl' ⊢
            exact doesCut hl' (fun e => by rw [e, show ((ba []).toList == ([] : List UInt8)) = true by decide +kernel] at hM0; cases hM0))
          clear e2 hwq
          go_wp2_with fail
          refine (HCUT.out _).mono ?_
          rintro e x10 ⟨rfl, y10⟩
          go_wp2_with fail
          go_ret
          exact ⟨rfl, KF.out.trans y10⟩
        · go_wp2_with fail
          go_ret
          exact ⟨rfl, KF.out⟩
      · go_wp2_with fail
        go_ret
        exact ⟨rfl, KF.out⟩
end Go.Proofs.YtonnimbcekhbgaaGreatDoor
