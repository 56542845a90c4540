/- The law on what is turned. -/
import Derived.Test.YtonnimbcekhbgaaGreatDoorFY
import Derived.Test.YtonnimbcekhbgaaGreatDoorFZ
import Derived.Test.YtonnimbcekhbgaaGreatDoorFS
import Derived.Deep.Cut
import Derived.Deep.CutRange
namespace Go.Proofs.YtonnimbcekhbgaaGreatDoor
open Go.RowKit

theorem swpL_len {k : Nat} {l : List UInt8} (h : l.length = 4) (hk : k < 3) : (swpL k l).length = 4 := by
  simp [swpL]; omega
/-- Where a byte stands. -/
def ixL (u : UInt8) : Nat := if u = 97 then 0 else if u = 98 then 1 else if u = 99 then 2 else 3
theorem ix_stands : ∀ u ∈ abcL, standsB (ba abcL) (ba [u]) (ixL u) = true ∧ ixL u < 4 ∧ ∀ j, j < 4 → j ≠ ixL u → standsB (ba abcL) (ba [u]) j = false := by decide +kernel
theorem ix_turn : ∀ N, N < 24 → ∀ u ∈ abcL, ((toL N).drop (ixL u)).take 1 = [(tabN abcL (toL N) 4 u.toNat).toUInt8] ∧ (toL N).length = 4 := by decide +kernel
theorem stands_byte {u : UInt8} (h : u ∈ abcL) (w : World) : Calls Tryz.prog 13 #[.string (ba abcL), .string (ba [u]), .int .i64 0] w fun e w' => e = .returned (.int .i64 (ixL u : Nat)) ∧ Kp [] w w' := by
  obtain ⟨h1, h2, h3⟩ := ix_stands u h
  refine (stands_any (s := ba abcL) (v := ba [u]) (by decide +kernel) (by rw [ba_size]; simp) 0 (by omega) w).mono ?_
  rintro e w' ⟨k, ⟨i, _, he, hi, hn⟩ | ⟨_, hn⟩⟩
  · refine ⟨?_, k⟩
    have : i = ixL u := by
      rcases Nat.lt_trichotomy i (ixL u) with q | q | q
      · have := h3 i (by omega) (by omega)
        rw [hi] at this; cases this
      · exact q
      · have := hn (ixL u) (by omega) q
        rw [h1] at this; cases this
    rw [he, this]
  · have := hn (ixL u) (by omega)
    rw [h1] at this; cases this

abbrev tlY (N : Nat) : Nat → List UInt8 → List UInt8 := fun _ L => turnL abcL (toL N) L ++ [10]
set_option maxRecDepth 100000 in
set_option maxHeartbeats 8000000 in
theorem turned_any (A : Option Addr) (n c : Nat) (z : Nat → Int) (x : Int) (w : World) (hn : n < 9223372036854775808) (hz : NumsIn w A n z) (hx1 : -9223372036854775808 ≤ x) (hx2 : x ≤ 9223372036854775807) :
    Calls Tryz.prog 6 #[.slice A n c, .int .i64 x] w fun e w' => e = .returned (.bool true) ∧ Kp [] w w' := by
  go_enter Tryz.func6, Tryz.ntmps6
  go_wp2_with fail
  refine (lines_any A n c z w hn hz).mono ?_
  rintro e w1 ⟨v, ls, rfl, L1, hl1, hl13, k1⟩
  clear hz
  obtain ⟨A1, c1, ev, hcell⟩ := L1.form
  have HL := hid L1
  have HK := hid k1
  have LOK := hid (L1.lok hl13)
  subst ev
  have HC := hid hcell
  clear hcell L1 k1
  obtain ⟨p1, p2⟩ := pk_bd x 24 (by omega)
  obtain ⟨N, hN⟩ : ∃ N : Nat, pk x 24 = (N : Int) := ⟨(pk x 24).toNat, by omega⟩
  have hN24 : N < 24 := by omega
  have HPK := hid (pick_any x 24 hx1 hx2 (by omega) (by omega) w1)
  rw [hN] at HPK
  clear hN p1 p2
  go_wp2_with fail
  refine HPK.out.mono ?_
  rintro e w2 ⟨rfl, rfl⟩
  go_wp2_with fail
  go_loopw [7, 8, 9] (fun t i _ wr => ∃ (k : Nat) (l : List UInt8), k ≤ N ∧ i = .int .i64 k ∧ t = .string (ba l) ∧ Hid (l.length = 4) ∧ Hid (permL k l = toL N) ∧ Kp [] w2 wr) (fun _ i _ _ => (intOf i).toNat)
  case atStart => exact ⟨N, abcL, Nat.le_refl _, rfl, rfl, hid rfl, hid rfl, Kp.refl _ _⟩
  case round =>
    obtain ⟨k, l, hk, rfl, rfl, HLL, HPL, KR⟩ := hrel
    by_cases hk0 : 0 < k
    · obtain ⟨q, hq⟩ : ∃ q : Nat, q = k % 3 := ⟨_, rfl⟩
      have hq3 : q < 3 := by omega
      have hmod : (k : Int).tmod 3 = (q : Int) := by rw [Int.tmod_eq_emod_of_nonneg (by omega)]; omega
      obtain ⟨k1, hk1⟩ : ∃ k1 : Nat, (k : Int) - 1 = (k1 : Int) := ⟨k - 1, by omega⟩
      have HK1 : Hid (k = k1 + 1) := hid (by omega)
      have wk := wrap_i64_nat k1 (by omega)
      have wq := wrap_i64_nat q (by omega)
      have hkp : (0 : Int) < (k : Int) := by omega
      obtain ⟨q1, hq1⟩ : ∃ q1 : Nat, (q : Int) + 1 = (q1 : Int) := ⟨q + 1, by omega⟩
      obtain ⟨q2, hq2⟩ : ∃ q2 : Nat, (q : Int) + 2 = (q2 : Int) := ⟨q + 2, by omega⟩
      have wq1 := wrap_i64_nat q1 (by omega)
      have wq2 := wrap_i64_nat q2 (by omega)
      have sl : (ba l).size = 4 := by rw [ba_size]; exact HLL.out
      obtain ⟨P1, hP1⟩ : ∃ P1, P1 = l.take q := ⟨_, rfl⟩
      obtain ⟨P2, hP2⟩ : ∃ P2, P2 = (l.drop (q + 1)).take 1 := ⟨_, rfl⟩
      obtain ⟨P3, hP3⟩ : ∃ P3, P3 = (l.drop q).take 1 := ⟨_, rfl⟩
      obtain ⟨P4, hP4⟩ : ∃ P4, P4 = l.drop (q + 2) := ⟨_, rfl⟩
      have hll := HLL.out
      have x1 : (ba l).extract 0 q = ba P1 := by rw [ba_extract, List.drop_zero, hP1]
      have x2 : (ba l).extract q1 q2 = ba P2 := by rw [ba_extract, hP2, List.drop_take, show q1 = q + 1 by omega, show q2 - (q + 1) = 1 by omega]
      have x3 : (ba l).extract q q1 = ba P3 := by rw [ba_extract, hP3, List.drop_take, show q1 - q = 1 by omega]
      have x4 : (ba l).extract q2 4 = ba P4 := by
        rw [ba_extract, hP4, show q2 = q + 2 by omega, List.take_of_length_le (by omega)]
      have n1 : (ba P1).size = q := by rw [ba_size, hP1, List.length_take]; omega
      have n2 : (ba P2).size = 1 := by rw [ba_size, hP2, List.length_take, List.length_drop]; omega
      have n3 : (ba P3).size = 1 := by rw [ba_size, hP3, List.length_take, List.length_drop]; omega
      obtain ⟨r4, hr4⟩ : ∃ r4, (ba P4).size = r4 := ⟨_, rfl⟩
      have n4 : r4 ≤ 4 := by rw [← hr4, ba_size, hP4, List.length_drop]; omega
      obtain ⟨Q1, hQ1⟩ : ∃ Q1, Q1 = P1 ++ P2 := ⟨_, rfl⟩
      obtain ⟨Q2, hQ2⟩ : ∃ Q2, Q2 = Q1 ++ P3 := ⟨_, rfl⟩
      obtain ⟨Q3, hQ3⟩ : ∃ Q3, Q3 = Q2 ++ P4 := ⟨_, rfl⟩
      have y1 : ba P1 ++ ba P2 = ba Q1 := by rw [hQ1]; exact ba_app _ _
      have y2 : ba Q1 ++ ba P3 = ba Q2 := by rw [hQ2]; exact ba_app _ _
      have y3 : ba Q2 ++ ba P4 = ba Q3 := by rw [hQ3]; exact ba_app _ _
      have m1 : (ba Q1).size = q + 1 := by rw [← y1, ByteArray.size_append, n1, n2]
      have m2 : (ba Q2).size = q + 2 := by rw [← y2, ByteArray.size_append, m1, n3]
      have o1 : ¬ 9223372036854775807 < q + 1 := by omega
      have o2 : ¬ 9223372036854775807 < q + 1 + 1 := by omega
      have o3 : ¬ 9223372036854775807 < q + 2 + r4 := by omega
      have i1 : q ≤ 4 := by omega
      have i2 : q2 ≤ 4 := by omega
      have i3 : q1 ≤ 4 := by omega
      have i4 : q1 ≤ q2 := by omega
      have i5 : q ≤ q1 := by omega
      have FQ : Hid (Q3 = swpL q l) := hid (by rw [hQ3, hQ2, hQ1, hP1, hP2, hP3, hP4]; rfl)
      have HQ := hid hq
      clear hP1 hP2 hP3 hP4 hQ1 hQ2 hQ3 hll hq
      go_wp2_with fail
      go_quiet (fail)
      go_wp2_with fail
      go_round
      case rel =>
        refine ⟨k1, Q3, by omega, rfl, rfl, hid (by rw [FQ.out]; exact swpL_len HLL.out (by omega)), hid ?_, KR.trans (Kp.drewN _ _ _)⟩
        have := HPL.out
        rw [HK1.out] at this
        rw [FQ.out, HQ.out, HK1.out]
        exact this
      case measure => simp [intOf]; omega
    · have e : k = 0 := by omega
      subst e
      have hl : l = toL N := HPL.out
      subst hl
      have hT4 : (toL N).length = 4 := HLL.out
      have HT4 := hid hT4
      clear hT4 HLL
      go_wp2_with fail
      go_loopw [10, 11, 12, 13] (fun o i _ _ wr => ∃ k : Nat, k ≤ ls.length ∧ i = .int .i64 k ∧ o = .string (ba (told (tlY N) 1 (ls.take k))) ∧ Kp [] w2 wr) (fun _ i _ _ _ => ls.length - (intOf i).toNat)
      case atStart => exact ⟨0, by omega, rfl, rfl, KR⟩
      case round =>
        obtain ⟨k, hk, rfl, rfl, kp⟩ := hrel
        by_cases hkn : k < ls.length
        · obtain ⟨l, hl⟩ : ∃ l, ls[k]? = some l := ⟨_, List.getElem?_eq_getElem hkn⟩
          obtain ⟨g, rfl, hc0⟩ := HC.out k l hl
          have hc := (kp.cell (World.block_lt_of_cell? _ _ hc0) (by simp)).trans hc0
          clear hc0
          obtain ⟨k1, hk1⟩ : ∃ k1 : Nat, (k : Int) + 1 = (k1 : Int) := ⟨k + 1, by omega⟩
          have wk := wrap_i64_nat k1 (by omega)
          obtain ⟨T, hT⟩ : ∃ T, T = told (tlY N) 1 (ls.take k) := ⟨_, rfl⟩
          have hTl : T.length ≤ 1000 * 13 := by
            have := told_le (tl := tlY N) (N := 1000) (fun _ l _ h => by have := h.1; simp [turnL_len]; omega) (ls.take k) 1 (by rw [List.length_take]; omega) (fun l hl => LOK.out.ok l (List.mem_of_mem_take hl))
            rw [← hT, List.length_take] at this
            have : 1000 * min k ls.length ≤ 1000 * 13 := Nat.mul_le_mul_left _ (by omega)
            omega
          rw [← hT]
          have HTT := hid hT
          have HLk := hid hl
          have HOK := hid (LOK.out.ok l (List.mem_of_getElem? hl))
          have hll := HOK.out.1
          have zl := ba_size l
          clear hT hl
          go_wp2_with fail
          go_loopw [10, 12, 13] (fun o j _ ws => ∃ j' : Nat, j' ≤ l.length ∧ j = .int .i64 j' ∧ o = .string (ba (T ++ turnL abcL (toL N) (l.take j'))) ∧ Kp [] wr ws) (fun _ j _ _ => l.length - (intOf j).toNat)
          case atStart => exact ⟨0, by omega, rfl, by simp [turnL], Kp.refl _ _⟩
          case round =>
            obtain ⟨j, hj, rfl, rfl, kj⟩ := hrel
            have hcj := (kj.cell (World.block_lt_of_cell? _ _ hc) (by simp)).trans hc
            by_cases hjn : j < l.length
            · obtain ⟨u, hu⟩ : ∃ u, l[j]? = some u := ⟨_, List.getElem?_eq_getElem hjn⟩
              have hua := lineOk_mem HOK.out u (List.mem_of_getElem? hu)
              obtain ⟨j1, hj1⟩ : ∃ j1 : Nat, (j : Int) + 1 = (j1 : Int) := ⟨j + 1, by omega⟩
              have wj := wrap_i64_nat j1 (by omega)
              have i1 : j1 ≤ l.length := by omega
              have i2 : j ≤ j1 := by omega
              have x1 : (ba l).extract j j1 = ba [u] := by
                rw [ba_extract, List.drop_take, show j1 - j = 1 by omega, List.drop_eq_getElem_cons hjn, List.take_succ_cons, List.take_zero]
                have := (List.getElem?_eq_some_iff.1 hu).2
                rw [this]
              obtain ⟨t1, t2⟩ := ix_turn N hN24 u hua
              obtain ⟨s1, s2, s3⟩ := ix_stands u hua
              have SB := hid (fun w => stands_byte hua w)
              obtain ⟨q, hq⟩ : ∃ q, q = ixL u := ⟨_, rfl⟩
              rw [← hq] at t1 s2 SB
              obtain ⟨v, hv⟩ : ∃ v, v = (tabN abcL (toL N) 4 u.toNat).toUInt8 := ⟨_, rfl⟩
              rw [← hv] at t1
              obtain ⟨q1, hq1⟩ : ∃ q1 : Nat, (q : Int) + 1 = (q1 : Int) := ⟨q + 1, by omega⟩
              have wq := wrap_i64_nat q1 (by omega)
              have sT : (ba (toL N)).size = 4 := by rw [ba_size]; exact t2
              have i3 : q1 ≤ 4 := by omega
              have i4 : q ≤ q1 := by omega
              have x2 : (ba (toL N)).extract q q1 = ba [v] := by rw [ba_extract, List.drop_take, show q1 - q = 1 by omega, t1]
              obtain ⟨U, hU⟩ : ∃ U, U = T ++ turnL abcL (toL N) (l.take j) := ⟨_, rfl⟩
              have hUl : U.length = T.length + j := by rw [hU, List.length_append, turnL_len, List.length_take]; omega
              rw [← hU]
              obtain ⟨V, hV⟩ : ∃ V, V = U ++ [v] := ⟨_, rfl⟩
              have y1 : ba U ++ ba [v] = ba V := by rw [hV]; exact ba_app _ _
              have zU := ba_size U
              have zv : (ba [v]).size = 1 := by rw [ba_size]; rfl
              have o1 : ¬ 9223372036854775807 < U.length + 1 := by omega
              have FV : Hid (V = T ++ turnL abcL (toL N) (l.take j1)) := hid (by
                rw [hV, hU, show j1 = j + 1 by omega, List.take_add_one, hu, Option.toList_some, hv, List.append_assoc]
                simp [turnL])
              clear t1 t2 s1 s3 hU hV hUl hv hq hu hua
              go_wp2_with fail
              refine (SB.out _).mono ?_
              rintro e w4 ⟨rfl, k4⟩
              go_wp2_with fail
              go_round
              case rel => exact ⟨_, _, _, _, _, _, _, _, _, _, _, _, _, _, _, _, _, _, _, _, _, _, _, _, _, _, _, _, _, ⟨j1, by omega, rfl, by rw [← FV.out], kj.trans k4⟩, rfl⟩
              case measure => simp [intOf]; omega
            · have e : j = l.length := by omega
              subst e
              rw [List.take_length]
              obtain ⟨U, hU⟩ : ∃ U, U = T ++ turnL abcL (toL N) l := ⟨_, rfl⟩
              have hUl : U.length = T.length + l.length := by rw [hU, List.length_append, turnL_len]
              rw [← hU]
              obtain ⟨V, hV⟩ : ∃ V, V = U ++ [10] := ⟨_, rfl⟩
              have y1 : ba U ++ ⟨#[10]⟩ = ba V := by rw [hV]; exact ba_app U [10]
              have zU := ba_size U
              have o1 : ¬ 9223372036854775807 < U.length + 1 := by omega
              have FV : Hid (V = told (tlY N) 1 (ls.take k1)) := hid (by
                rw [show k1 = k + 1 by omega, List.take_add_one, HLk.out, Option.toList_some, told_snoc, ← HTT.out, hV, hU, List.append_assoc])
              clear hU hV hUl
              go_wp2_with fail
              go_round
              case rel => exact ⟨k1, by omega, rfl, by rw [← FV.out], kp.trans kj⟩
              case measure => simp [intOf]; omega
        · have e : k = ls.length := by omega
          subst e
          rw [List.take_length]
          have LR := hid (HL.out.keep kp)
          have KW := hid (HK.out.trans kp)
          have sT : (ba (toL N)).size = 4 := by rw [ba_size]; exact HT4.out
          obtain ⟨E1, hE1⟩ : ∃ E1, (⟨#[121, 47]⟩ : ByteArray) ++ ⟨#[97, 98, 99, 32]⟩ = E1 := ⟨_, rfl⟩
          obtain ⟨E2, hE2⟩ : ∃ E2, E1 ++ (⟨#[47]⟩ : ByteArray) = E2 := ⟨_, rfl⟩
          obtain ⟨E3, hE3⟩ : ∃ E3, E2 ++ ba (toL N) = E3 := ⟨_, rfl⟩
          obtain ⟨E4, hE4⟩ : ∃ E4, E3 ++ (⟨#[47]⟩ : ByteArray) = E4 := ⟨_, rfl⟩
          obtain ⟨F1, hF1⟩ : ∃ F1, (⟨#[121, 47]⟩ : ByteArray) ++ ba (toL N) = F1 := ⟨_, rfl⟩
          obtain ⟨F2, hF2⟩ : ∃ F2, F1 ++ (⟨#[47]⟩ : ByteArray) = F2 := ⟨_, rfl⟩
          obtain ⟨F3, hF3⟩ : ∃ F3, F2 ++ (⟨#[97, 98, 99, 32]⟩ : ByteArray) = F3 := ⟨_, rfl⟩
          obtain ⟨F4, hF4⟩ : ∃ F4, F3 ++ (⟨#[47]⟩ : ByteArray) = F4 := ⟨_, rfl⟩
          obtain ⟨G1, hG1⟩ : ∃ G1, E4 ++ (⟨#[59]⟩ : ByteArray) = G1 := ⟨_, rfl⟩
          obtain ⟨G2, hG2⟩ : ∃ G2, G1 ++ F4 = G2 := ⟨_, rfl⟩
          have z1 : E1.size = 6 := by rw [← hE1]; rfl
          have z2 : E2.size = 7 := by rw [← hE2, ByteArray.size_append, z1]; rfl
          have z3 : E3.size = 11 := by rw [← hE3, ByteArray.size_append, z2, sT]
          have z4 : E4.size = 12 := by rw [← hE4, ByteArray.size_append, z3]; rfl
          have u1 : F1.size = 6 := by rw [← hF1, ByteArray.size_append, sT]; rfl
          have u2 : F2.size = 7 := by rw [← hF2, ByteArray.size_append, u1]; rfl
          have u3 : F3.size = 11 := by rw [← hF3, ByteArray.size_append, u2]; rfl
          have u4 : F4.size = 12 := by rw [← hF4, ByteArray.size_append, u3]; rfl
          have v1 : G1.size = 13 := by rw [← hG1, ByteArray.size_append, z4]; rfl
          have a1 : (⟨#[121, 47]⟩ : ByteArray) = ba [121, 47] := rfl
          have a2 : (⟨#[97, 98, 99, 32]⟩ : ByteArray) = ba abcL := rfl
          have a3 : (⟨#[47]⟩ : ByteArray) = ba [47] := rfl
          have FE : Hid (E4 = yS N) := hid (by rw [← hE4, ← hE3, ← hE2, ← hE1, a1, a2, a3, ba_app, ba_app, ba_app, ba_app]; rfl)
          have FF : Hid (F4 = zS N) := hid (by rw [← hF4, ← hF3, ← hF2, ← hF1, a1, a2, a3, ba_app, ba_app, ba_app, ba_app]; rfl)
          have FG : Hid (G2 = yzS N) := hid (by rw [← hG2, ← hG1, FE.out, FF.out]; rfl)
          clear a1 a2 a3
          have W1 := hid (fun w' (L : Lns w.heap.size w' (.slice A1 ls.length c1) ls) => whole_any L (by omega))
          go_wp2_with fail
          refine (W1.out _ LR.out).mono ?_
          rintro e w3 ⟨rfl, rfl⟩
          go_wp2_with fail
          rw [FE.out]
          refine (doesY hN24 LOK.out).mono ?_
          rintro e w4 ⟨rfl, k4⟩
          rw [← FE.out]
          have L4 := hid (LR.out.keep k4)
          go_wp2_with fail
          refine (W1.out _ L4.out).mono ?_
          rintro e w5 ⟨rfl, rfl⟩
          go_wp2_with fail
          refine (W1.out _ L4.out).mono ?_
          rintro e w6 ⟨rfl, rfl⟩
          go_wp2_with fail
          rw [FG.out]
          refine (doesYZ hN24 LOK.out).mono ?_
          rintro e w7 ⟨rfl, k7⟩
          go_wp2_with fail
          go_ret
          exact ⟨rfl, KW.out.trans (k4.trans k7)⟩
end Go.Proofs.YtonnimbcekhbgaaGreatDoor
