/- The law on ranges. -/
import Derived.Test.YtonnimbcekhbgaaGreatDoorKEToKH
import Derived.Test.YtonnimbcekhbgaaGreatDoorFOToFZ
import Derived.Test.YtonnimbcekhbgaaGreatDoorFS
namespace Go.Proofs.YtonnimbcekhbgaaGreatDoor
open Go.RowKit

theorem stands_has {l t : List UInt8} (hl : l.length ≤ 1000) (ht : t.length ≤ 1000) (w : World) : Calls Tryz.prog 13 #[.string (ba l), .string (ba t), .int .i64 0] w fun e w' => Kp [] w w' ∧ ((hasB l t = true ∧ ∃ i : Nat, e = .returned (.int .i64 i)) ∨ (hasB l t = false ∧ e = .returned (.int .i64 (-1)))) := by
  refine (stands_any (s := ba l) (v := ba t) (by rw [ba_size]; omega) (by rw [ba_size]; omega) 0 (by omega) w).mono ?_
  rintro e w' ⟨k, ⟨i, _, he, hi, hn⟩ | ⟨he, hn⟩⟩
  · exact ⟨k, .inl ⟨(hasB_iff _ _).2 ⟨i, hi⟩, i, he⟩⟩
  · refine ⟨k, .inr ⟨?_, he⟩⟩
    cases h : hasB l t with
    | false => rfl
    | true =>
      obtain ⟨a, ha⟩ := (hasB_iff _ _).1 h
      rw [hn a (by omega)] at ha
      cases ha

theorem take_snoc {ls : List (List UInt8)} {k : Nat} {l : List UInt8} (hl : ls[k]? = some l) : ls.take (k + 1) = ls.take k ++ [l] := by rw [List.take_add_one, hl, Option.toList_some]

set_option maxRecDepth 100000 in
set_option maxHeartbeats 8000000 in
theorem ranged_any (A : Option Addr) (n c : Nat) (z : Nat → Int) (x y : Int) (w : World) (hn : n < 9223372036854775808) (hz : NumsIn w A n z) (hx1 : -9223372036854775808 ≤ x) (hx2 : x ≤ 9223372036854775807) (hy1 : -9223372036854775808 ≤ y) (hy2 : y ≤ 9223372036854775807) :
    Calls Tryz.prog 4 #[.slice A n c, .int .i64 x, .int .i64 y] w fun e w' => e = .returned (.bool true) ∧ Kp [] w w' := by
  go_enter Tryz.func4, Tryz.ntmps4
  go_wp2_with fail
  refine (lines_any A n c z w hn hz).mono ?_
  rintro e w1 ⟨v, ls, rfl, L1, hl1, hl13, k1⟩
  clear hz
  obtain ⟨A1, c1, ev, hcell⟩ := L1.form
  have HL := hid L1
  have HK := hid k1
  have LOK := hid (L1.lok hl13)
  subst ev
  have HC := hid hcell
  clear hcell L1 k1
  obtain ⟨p1, p2⟩ := pk_bd x 14 (by omega)
  obtain ⟨a, ha⟩ : ∃ a : Nat, pk x 14 + 1 = (a : Int) := ⟨(pk x 14 + 1).toNat, by omega⟩
  have ha1 : 1 ≤ a ∧ a < 15 := by omega
  have HPA := hid (pick_any x 14 hx1 hx2 (by omega) (by omega) w1)
  obtain ⟨x', hx'⟩ : ∃ x', pk x 14 = x' := ⟨_, rfl⟩
  rw [hx'] at ha HPA
  obtain ⟨p3, p4⟩ := pk_bd y 14 (by omega)
  obtain ⟨b, hb⟩ : ∃ b : Nat, pk y 14 + 1 = (b : Int) := ⟨(pk y 14 + 1).toNat, by omega⟩
  have hb1 : 1 ≤ b ∧ b < 15 := by omega
  have HPB := hid (pick_any y 14 hy1 hy2 (by omega) (by omega) w1)
  obtain ⟨y', hy'⟩ : ∃ y', pk y 14 = y' := ⟨_, rfl⟩
  rw [hy'] at hb HPB
  clear p1 p2 p3 p4 hx' hy'
  have wa := wrap_i64_nat a (by omega)
  have wb := wrap_i64_nat b (by omega)
  go_wp2_with fail
  refine HPA.out.mono ?_
  rintro e w2 ⟨rfl, rfl⟩
  go_wp2_with fail
  refine HPB.out.mono ?_
  rintro e w3 ⟨rfl, rfl⟩
  clear HPA HPB
  go_wp2_with fail
  clear ha hb wa wb
  go_loopw [10, 11, 12, 13] (fun ti tu i _ wr => ∃ k : Nat, k ≤ ls.length ∧ i = .int .i64 k ∧ ti = .string (ba (toldP (tlIn (insN a b) true) [] (ls.take k))) ∧ tu = .string (ba (toldP (tlIn (insN a b) false) [] (ls.take k))) ∧ wr = w3) (fun _ _ i _ _ => ls.length - (intOf i).toNat)
  case atStart => exact ⟨0, by omega, rfl, rfl, rfl, rfl⟩
  case round =>
    obtain ⟨k, hk, rfl, rfl, rfl, rfl⟩ := hrel
    by_cases hkn : k < ls.length
    · obtain ⟨l, hl⟩ : ∃ l, ls[k]? = some l := ⟨_, List.getElem?_eq_getElem hkn⟩
      obtain ⟨g, rfl, hc⟩ := HC.out k l hl
      obtain ⟨k1, hk1⟩ : ∃ k1 : Nat, (k : Int) + 1 = (k1 : Int) := ⟨k + 1, by omega⟩
      have wk := wrap_i64_nat k1 (by omega)
      obtain ⟨T, hT⟩ : ∃ T, T = toldP (tlIn (insN a b) true) [] (ls.take k) := ⟨_, rfl⟩
      obtain ⟨U, hU⟩ : ∃ U, U = toldP (tlIn (insN a b) false) [] (ls.take k) := ⟨_, rfl⟩
      have hle : ∀ v, (toldP (tlIn (insN a b) v) [] (ls.take k)).length ≤ 1000 * 13 := fun v => by
        have := toldP_le (tl := tlIn (insN a b) v) (N := 1000) (tlIn_le _ _) (ls.take k) [] (fun l hl => LOK.out.ok l (List.mem_of_mem_take hl))
        rw [List.length_take] at this
        have : 1000 * min k ls.length ≤ 1000 * 13 := Nat.mul_le_mul_left _ (by omega)
        omega
      have hTl := hle true
      have hUl := hle false
      have hll := (LOK.out.ok l (List.mem_of_getElem? hl)).1
      rw [← hT] at hTl
      rw [← hU] at hUl
      rw [← hT, ← hU]
      have zl := ba_size l
      have sT := ba_size T
      have sU := ba_size U
      obtain ⟨T1, hT1⟩ : ∃ T1, T1 = T ++ l := ⟨_, rfl⟩
      have aT1 : ba T ++ ba l = ba T1 := by rw [hT1]; exact ba_app T l
      have lT1 : T1.length = T.length + l.length := by rw [hT1, List.length_append]
      have tT1 := ba_size T1
      have qT1 : ¬ 9223372036854775807 < T.length + l.length := by omega
      obtain ⟨T2, hT2⟩ : ∃ T2, T2 = T1 ++ [10] := ⟨_, rfl⟩
      have aT2 : ba T1 ++ ⟨#[10]⟩ = ba T2 := by rw [hT2]; exact ba_app T1 [10]
      have qT2 : ¬ 9223372036854775807 < T1.length + 1 := by omega
      obtain ⟨U1, hU1⟩ : ∃ U1, U1 = U ++ l := ⟨_, rfl⟩
      have aU1 : ba U ++ ba l = ba U1 := by rw [hU1]; exact ba_app U l
      have lU1 : U1.length = U.length + l.length := by rw [hU1, List.length_append]
      have tU1 := ba_size U1
      have qU1 : ¬ 9223372036854775807 < U.length + l.length := by omega
      obtain ⟨U2, hU2⟩ : ∃ U2, U2 = U1 ++ [10] := ⟨_, rfl⟩
      have aU2 : ba U1 ++ ⟨#[10]⟩ = ba U2 := by rw [hU2]; exact ba_app U1 [10]
      have qU2 : ¬ 9223372036854775807 < U1.length + 1 := by omega
      have hek : k1 = k + 1 := by omega
      have FT : Hid (∀ v, toldP (tlIn (insN a b) v) [] (ls.take k1) = toldP (tlIn (insN a b) v) [] (ls.take k) ++ (if insB a b k1 = v then l ++ [10] else [])) := hid (fun v => by
        rw [hek, take_snoc hl, toldP_snoc, List.nil_append]
        show _ ++ (if insB a b ((ls.take k).length + 1) = v then _ else _) = _
        rw [List.length_take, show min k ls.length = k by omega])
      have FT1 : Hid (T2 = toldP (tlIn (insN a b) true) [] (ls.take k) ++ (l ++ [10])) := hid (by rw [hT2, hT1, hT, List.append_assoc])
      have FU1 : Hid (U2 = toldP (tlIn (insN a b) false) [] (ls.take k) ++ (l ++ [10])) := hid (by rw [hU2, hU1, hU, List.append_assoc])
      have HT := hid hT
      have HU := hid hU
      have hq3 : ((k1 : Int) == (a : Int)) = decide (k1 = a) := by rw [Bool.eq_iff_iff]; simp; omega
      clear hT hU hT1 hT2 hU1 hU2 hle hek hl
      by_cases h1 : a ≤ k1
      · by_cases h2 : k1 ≤ b
        · have hin : insB a b k1 = true := by simp [insB]; omega
          have HIN := hid hin
          clear hin
          go_wp2_with fail
          go_round
          case rel => exact ⟨k1, by omega, rfl, by rw [FT1.out, FT.out, if_pos HIN.out], by rw [HU.out, FT.out, if_neg (by rw [HIN.out]; simp), List.append_nil], by trivial⟩
          case measure => simp [intOf]; omega
        · by_cases h3 : k1 = a
          · have hin : insB a b k1 = true := by simp [insB]; omega
            have HIN := hid hin
            have hq4 : ((k1 : Int) == (a : Int)) = true := by rw [hq3]; simpa using h3
            clear hin hq3
            have H3 := hid h3
            clear h3
            go_wp2_with fail
            go_round
            case rel => exact ⟨k1, by omega, rfl, by rw [FT1.out, FT.out, if_pos HIN.out], by rw [HU.out, FT.out, if_neg (by rw [HIN.out]; simp), List.append_nil], by trivial⟩
            case measure => simp [intOf]; omega
          · have hin : insB a b k1 = false := by simp [insB]; omega
            have HIN := hid hin
            have hq4 : ((k1 : Int) == (a : Int)) = false := by rw [hq3]; simpa using h3
            clear hin hq3
            go_wp2_with fail
            go_round
            case rel => exact ⟨k1, by omega, rfl, by rw [HT.out, FT.out, if_neg (by rw [HIN.out]; simp), List.append_nil], by rw [FU1.out, FT.out, if_pos HIN.out], by trivial⟩
            case measure => simp [intOf]; omega
      · have hin : insB a b k1 = false := by simp [insB]; omega
        have HIN := hid hin
        have hq4 : ((k1 : Int) == (a : Int)) = false := by rw [hq3]; simp; omega
        clear hin hq3
        go_wp2_with fail
        go_round
        case rel => exact ⟨k1, by omega, rfl, by rw [HT.out, FT.out, if_neg (by rw [HIN.out]; simp), List.append_nil], by rw [FU1.out, FT.out, if_pos HIN.out], by trivial⟩
        case measure => simp [intOf]; omega
    · have e : k = ls.length := by omega
      subst e
      rw [List.take_length]
      have W1 := hid (fun w' (L : Lns w.heap.size w' (.slice A1 ls.length c1) ls) => whole_any L (by omega))
      obtain ⟨X1, hX1⟩ : ∃ X1, dg a ++ (⟨#[44]⟩ : ByteArray) = X1 := ⟨_, rfl⟩
      have hX2 : X1 ++ dg b = xS a b := by rw [← hX1]; rfl
      obtain ⟨da, hda⟩ : ∃ da, (dg a).size = da := ⟨_, rfl⟩
      obtain ⟨db, hdb⟩ : ∃ db, (dg b).size = db := ⟨_, rfl⟩
      have da2 : da ≤ 2 := by rw [← hda, ba_dg a (by omega), ba_size]; exact dig_le a (by omega)
      have db2 : db ≤ 2 := by rw [← hdb, ba_dg b (by omega), ba_size]; exact dig_le b (by omega)
      have z1 : X1.size = da + 1 := by rw [← hX1, ByteArray.size_append, hda]; rfl
      have z2 : (xS a b).size = da + 1 + db := by rw [← hX2, ByteArray.size_append, z1, hdb]
      obtain ⟨Y1, hY1⟩ : ∃ Y1, (⟨#[35, 110, 10]⟩ : ByteArray) ++ xS a b = Y1 := ⟨_, rfl⟩
      have hY2 : Y1 ++ (⟨#[112]⟩ : ByteArray) = rpS a b := by rw [← hY1]; rfl
      have z3 : Y1.size = 3 + (da + 1 + db) := by rw [← hY1, ByteArray.size_append, z2]; rfl
      have hD2 : xS a b ++ (⟨#[100]⟩ : ByteArray) = rdS a b := rfl
      have hN2 : xS a b ++ (⟨#[33, 100]⟩ : ByteArray) = rnS a b := rfl
      have o1 : ¬ 9223372036854775807 < da + 1 := by omega
      have o2 : ¬ 9223372036854775807 < da + 1 + db := by omega
      have o3 : ¬ 9223372036854775807 < 3 + (da + 1 + db) := by omega
      have o4 : ¬ 9223372036854775807 < 3 + (da + 1 + db) + 1 := by omega
      have o5 : ¬ 9223372036854775807 < da + 1 + db + 1 := by omega
      have o6 : ¬ 9223372036854775807 < da + 1 + db + 2 := by omega
      obtain ⟨XS, hXS⟩ : ∃ XS, XS = xS a b := ⟨_, rfl⟩
      rw [← hXS] at hX2 z2 hY1 hD2 hN2
      clear hXS hkn hk
      go_wp2_with fail
      refine (digits_any a (by omega) _).mono ?_
      rintro e x1 ⟨rfl, y1⟩
      go_wp2_with fail
      refine (digits_any b (by omega) _).mono ?_
      rintro e x2 ⟨rfl, y2⟩
      have L2 := hid (HL.out.keep (y1.trans y2))
      go_wp2_with fail
      refine (W1.out _ L2.out).mono ?_
      rintro e x3 ⟨rfl, rfl⟩
      go_wp2_with fail
      refine (doesRp ha1 hb1 LOK.out).mono ?_
      rintro e x4 ⟨rfl, y4⟩
      have L4 := hid (L2.out.keep y4)
      go_wp2_with fail
      refine (W1.out _ L4.out).mono ?_
      rintro e x5 ⟨rfl, rfl⟩
      go_wp2_with fail
      refine (doesRd ha1 hb1 LOK.out).mono ?_
      rintro e x6 ⟨rfl, y6⟩
      have L6 := hid (L4.out.keep y6)
      go_wp2_with fail
      refine (W1.out _ L6.out).mono ?_
      rintro e x7 ⟨rfl, rfl⟩
      go_wp2_with fail
      refine (doesRn ha1 hb1 LOK.out).mono ?_
      rintro e x8 ⟨rfl, y8⟩
      have L8 := hid (L6.out.keep y8)
      have K8 := hid (HK.out.trans (y1.trans (y2.trans (y4.trans (y6.trans y8)))))
      clear y1 y2 y4 y6 y8 L2 L4 L6 HC HL HK hX1 hX2 hY1 hY2 hD2 hN2 z1 z2 z3 o1 o2 o3 o4 o5 o6 hda hdb da2 db2
      obtain ⟨A2, c2, ev, hcell⟩ := L8.out.form
      injection ev with ev1 _ ev2
      subst ev1 ev2
      have HC := hid hcell
      clear hcell
      go_wp2_with fail
      go_loopw [10, 16, 17, 18, 19] (fun ti on i _ _ wr => ∃ k : Nat, k ≤ ls.length ∧ i = .int .i64 k ∧ ti = .string (ba (toldP (tlIn insP true) [] (ls.take k))) ∧ on = .bool (onP (ls.take k)) ∧ Kp [] x8 wr) (fun _ _ i _ _ _ => ls.length - (intOf i).toNat)
      case atStart => exact ⟨0, by omega, rfl, rfl, rfl, Kp.refl _ _⟩
      case round =>
        obtain ⟨k, hk, rfl, rfl, rfl, kr⟩ := hrel
        by_cases hkn : k < ls.length
        · obtain ⟨l, hl⟩ : ∃ l, ls[k]? = some l := ⟨_, List.getElem?_eq_getElem hkn⟩
          obtain ⟨g, rfl, hc0⟩ := HC.out k l hl
          have hc := (kr.cell (World.block_lt_of_cell? _ _ hc0) (by simp)).trans hc0
          clear hc0
          obtain ⟨k1, hk1⟩ : ∃ k1 : Nat, (k : Int) + 1 = (k1 : Int) := ⟨k + 1, by omega⟩
          have wk := wrap_i64_nat k1 (by omega)
          obtain ⟨T, hT⟩ : ∃ T, T = toldP (tlIn insP true) [] (ls.take k) := ⟨_, rfl⟩
          have hTl : T.length ≤ 1000 * 13 := by
            have := toldP_le (tl := tlIn insP true) (N := 1000) (tlIn_le _ _) (ls.take k) [] (fun l hl => LOK.out.ok l (List.mem_of_mem_take hl))
            rw [← hT, List.length_take] at this
            have : 1000 * min k ls.length ≤ 1000 * 13 := Nat.mul_le_mul_left _ (by omega)
            omega
          have hll := (LOK.out.ok l (List.mem_of_getElem? hl)).1
          rw [← hT]
          have zl := ba_size l
          have sT := ba_size T
          obtain ⟨T1, hT1⟩ : ∃ T1, T1 = T ++ l := ⟨_, rfl⟩
          have aT1 : ba T ++ ba l = ba T1 := by rw [hT1]; exact ba_app T l
          have lT1 : T1.length = T.length + l.length := by rw [hT1, List.length_append]
          have tT1 := ba_size T1
          have qT1 : ¬ 9223372036854775807 < T.length + l.length := by omega
          obtain ⟨T2, hT2⟩ : ∃ T2, T2 = T1 ++ [10] := ⟨_, rfl⟩
          have aT2 : ba T1 ++ ⟨#[10]⟩ = ba T2 := by rw [hT2]; exact ba_app T1 [10]
          have qT2 : ¬ 9223372036854775807 < T1.length + 1 := by omega
          have hek : k1 = k + 1 := by omega
          obtain ⟨on, hon⟩ : ∃ on, on = onP (ls.take k) := ⟨_, rfl⟩
          have FT : Hid (toldP (tlIn insP true) [] (ls.take k1) = T ++ (if (on || hasB l [97, 98]) = true then l ++ [10] else [])) := hid (by
            rw [hek, take_snoc hl, toldP_snoc, List.nil_append, hT, hon])
          have FO : Hid (onP (ls.take k1) = ((on && !(hasB l [99])) || (!on && hasB l [97, 98]))) := hid (by rw [hek, take_snoc hl, onP_snoc, hon])
          have FT1 : Hid (T2 = T ++ (l ++ [10])) := hid (by rw [hT2, hT1, List.append_assoc])
          rw [← hon]
          have S1 := hid (fun w' => stands_has (l := l) (t := [97, 98]) (by omega) (by simp) w')
          have S2 := hid (fun w' => stands_has (l := l) (t := [99]) (by omega) (by simp) w')
          clear hT hT1 hT2 hek hl hon
          go_wp2_with fail
          refine (S1.out _).mono ?_
          rintro e v1 ⟨q1, hh⟩
          have hc1 := (q1.cell (World.block_lt_of_cell? _ _ hc) (by simp)).trans hc
          have C1 := hid hc1
          clear hc
          rcases hh with ⟨hh, i1, rfl⟩ | ⟨hh, rfl⟩
          · have HH := hid hh
            clear hh hc1
            have hc1 := C1.out
            go_wp2_with fail
            refine (S2.out _).mono ?_
            rintro e v2 ⟨q2, hh2⟩
            have hc2 := (q2.cell (World.block_lt_of_cell? _ _ hc1) (by simp)).trans hc1
            clear hc1
            rcases hh2 with ⟨hh2, i2, rfl⟩ | ⟨hh2, rfl⟩
            · have HH2 := hid hh2
              clear hh2
              cases on
              all_goals
                go_wp2_with fail
                go_round
                case rel => exact ⟨k1, by omega, rfl, by rw [FT.out, HH.out, FT1.out]; simp, by rw [FO.out, HH.out, HH2.out]; rfl, kr.trans (q1.trans q2)⟩
                case measure => simp [intOf]; omega
            · have HH2 := hid hh2
              clear hh2
              cases on
              all_goals
                go_wp2_with fail
                go_round
                case rel => exact ⟨k1, by omega, rfl, by rw [FT.out, HH.out, FT1.out]; simp, by rw [FO.out, HH.out, HH2.out]; rfl, kr.trans (q1.trans q2)⟩
                case measure => simp [intOf]; omega
          · have HH := hid hh
            clear hh hc1
            have hc1 := C1.out
            go_wp2_with fail
            refine (S2.out _).mono ?_
            rintro e v2 ⟨q2, hh2⟩
            have hc2 := (q2.cell (World.block_lt_of_cell? _ _ hc1) (by simp)).trans hc1
            clear hc1
            rcases hh2 with ⟨hh2, i2, rfl⟩ | ⟨hh2, rfl⟩
            · have HH2 := hid hh2
              clear hh2
              cases on
              · go_wp2_with fail
                go_round
                case rel => exact ⟨k1, by omega, rfl, by rw [FT.out, HH.out]; simp, by rw [FO.out, HH.out, HH2.out]; rfl, kr.trans (q1.trans q2)⟩
                case measure => simp [intOf]; omega
              · go_wp2_with fail
                go_round
                case rel => exact ⟨k1, by omega, rfl, by rw [FT.out, HH.out, FT1.out]; simp, by rw [FO.out, HH.out, HH2.out]; rfl, kr.trans (q1.trans q2)⟩
                case measure => simp [intOf]; omega
            · have HH2 := hid hh2
              clear hh2
              cases on
              · go_wp2_with fail
                go_round
                case rel => exact ⟨k1, by omega, rfl, by rw [FT.out, HH.out]; simp, by rw [FO.out, HH.out, HH2.out]; rfl, kr.trans (q1.trans q2)⟩
                case measure => simp [intOf]; omega
              · go_wp2_with fail
                go_round
                case rel => exact ⟨k1, by omega, rfl, by rw [FT.out, HH.out, FT1.out]; simp, by rw [FO.out, HH.out, HH2.out]; rfl, kr.trans (q1.trans q2)⟩
                case measure => simp [intOf]; omega
        · have e : k = ls.length := by omega
          subst e
          rw [List.take_length]
          have L9 := hid (L8.out.keep kr)
          go_wp2_with fail
          refine (W1.out _ L9.out).mono ?_
          rintro e x9 ⟨rfl, rfl⟩
          go_wp2_with fail
          refine (doesPat LOK.out).mono ?_
          rintro e x10 ⟨rfl, y10⟩
          go_wp2_with fail
          go_ret
          exact ⟨rfl, K8.out.trans (kr.trans y10)⟩
end Go.Proofs.YtonnimbcekhbgaaGreatDoor
