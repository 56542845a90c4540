/- The law on words: the walk. -/
import Derived.Test.YtanpiomfnbiilaaDoorYA
namespace Go.Proofs.YtanpiomfnbiilaaDoor
open Go.RowKit

set_option maxRecDepth 100000 in
set_option maxHeartbeats 0 in
theorem longest_any (A B : Option Addr) (n m ca cb : Nat) (z y : Nat → Int) (w : World) (hn : n < 9223372036854775808) (hm : m < 9223372036854775808) (hA : NumsIn w A n z) (hB : NumsIn w B m y) (hw : Nm w) :
    Calls Tryd.prog 5 #[.slice A n ca, .slice B m cb] w fun e w' => e = .returned (.bool true) ∧ Kp [] w w' := by
  have HA := hid hA
  have HB := hid hB
  clear hA hB
  have wrn := wrap_i64_nat n (by omega)
  have wrm := wrap_i64_nat m (by omega)
  go_enter Tryd.func5, Tryd.ntmps5
  go_upto_block 0 with fail
  go_cut [5, 6, 7] from 21 (fun t _ _ wx => ∃ T, t = .string T ∧ T.size ≤ 80 ∧ Hid (Lts T) ∧ Kp [] w wx)
  case first =>
    go_wp2_with fail
    go_loopw [5, 6, 7] (fun t i _ wr => ∃ (k : Nat) (T : ByteArray), k ≤ 20 ∧ k ≤ m ∧ t = .string T ∧ i = .int .i64 k ∧ T.size ≤ 4 * k ∧ Hid (Lts T) ∧ Kp [] w wr) (fun _ i _ _ => 20 - (intOf i).toNat)
    case atStart => exact ⟨0, ⟨#[]⟩, by omega, by omega, rfl, rfl, by show 0 ≤ 4 * 0; omega, hid (fun u hu => by cases hu), Kp.refl _ _⟩
    case round =>
      obtain ⟨k, T, hk, hkm, rfl, rfl, hT, HT, kp⟩ := hrel
      by_cases hl1 : k < m
      · by_cases hl2 : k < 20
        · obtain ⟨k1, hk1⟩ : ∃ k1 : Nat, (k : Int) + 1 = (k1 : Int) := ⟨k + 1, by omega⟩
          have wk1 := wrap_i64_nat k1 (by omega)
          have HK := hid (show k1 = k + 1 by omega)
          have hB := HB.out.keep kp
          obtain ⟨ad, rfl, hc⟩ := hB.at_ k hl1
          obtain ⟨b1, b2⟩ := hB.bd k hl1
          generalize y k = yk at hc b1 b2
          clear hB
          go_wp2_with fail
          refine (word_any yk 4 b1 b2 (by omega) (by omega) _).mono ?_
          rintro e w1 ⟨W, rfl, hW, hsz, k1'⟩
          have HW := hid (show Lts W from hW.2.2)
          clear hW hc
          have hz1 : ¬ 9223372036854775807 < T.size + W.size := by omega
          go_wp2_with fail
          refine ⟨⟨k1, _, by omega, by omega, rfl, rfl, ?_, hid (HT.out.app HW.out), kp.trans k1'⟩, by simp [intOf]; omega⟩
          rw [ByteArray.size_append]; omega
        · go_wp2_with fail
          go_meet
          case rel => exact ⟨T, rfl, by omega, HT, kp⟩
      · go_wp2_with fail
        go_meet
        case rel => exact ⟨T, rfl, by omega, HT, kp⟩
  case rest =>
  obtain ⟨T, rfl, hT, HT, kp1⟩ := hcut
  clear HB
  have hA1 := HA.out.keep kp1
  have HA1 := hid hA1
  clear hA1 HA
  obtain ⟨i0, hi, hz0, hz1, hz2⟩ := info_parts Tryd.infoString
  have HI := hid (And.intro hi (And.intro hz0 (And.intro hz1 hz2)))
  clear hi hz0 hz1 hz2
  go_upto_block 2 with fail
  go_cut [8, 9, 10, 11] from 39 (fun p l _ _ wx => ∃ (P : ByteArray) (ws : List ByteArray) (AA : Option Addr) (L cc : Nat), p = .string P ∧ l = .slice AA L cc ∧ ws.length = L ∧ L ≤ 5 ∧ Hid (Kept wc wx (.slice AA L cc) P ws) ∧ Kp [] wc wx)
  case first =>
    go_wp2_with fail
    go_loopw [8, 9, 10, 11] (fun p l i _ wr => ∃ (P : ByteArray) (ws : List ByteArray) (k : Nat), p = .string P ∧ i = .int .i64 k ∧ ws.length = k ∧ k ≤ 5 ∧ k ≤ n ∧ Hid (Kept wc wr l P ws) ∧ Kp [] wc wr) (fun _ _ i _ _ => 5 - (intOf i).toNat)
    case atStart => exact ⟨⟨#[]⟩, [], 0, rfl, rfl, rfl, by omega, by omega, hid ⟨World.ownsRow_nil _ _ _ _, rfl, fun W hW => by cases hW⟩, Kp.refl _ _⟩
    case round =>
      obtain ⟨P, ws, k, rfl, rfl, hwk, hk5, hkn, HK, kpc⟩ := hrel
      by_cases hl1 : k < n
      · by_cases hl2 : k < 5
        · obtain ⟨k1, hk1⟩ : ∃ k1 : Nat, (k : Int) + 1 = (k1 : Int) := ⟨k + 1, by omega⟩
          have wk1 := wrap_i64_nat k1 (by omega)
          have HK1 := hid (show k1 = k + 1 by omega)
          have hA := HA1.out.keep kpc
          obtain ⟨ad, rfl, hc⟩ := hA.at_ k hl1
          obtain ⟨b1, b2⟩ := hA.bd k hl1
          generalize z k = yk at hc b1 b2
          clear hA
          go_wp2_with fail
          refine (word_any yk 5 b1 b2 (by omega) (by omega) _).mono ?_
          rintro e w1 ⟨W, rfl, hW, hsz, k1'⟩
          have HW := hid hW
          have H1 := hid (HK.out.keep k1')
          have O4 := hid (hwk ▸ H1.out.own)
          have kc1 := kpc.trans k1'
          have hzz := kc1.size
          have hP : P.size ≤ 30 := by have := HK.out.size; omega
          clear hc hW HK k1' kpc
          go_wp2_with (at_builtin; refine wpList_append2 rfl _ _ 29 rfl wc.heap.size 9 i0 (.string ⟨#[]⟩) 1 16 Tryd.underlying29 HI.out.1 HI.out.2.1 HI.out.2.2.1 HI.out.2.2.2 rfl (by decide) _ k _ rfl (O4.out.alloc _) ⟨w1.heap.size, 0, none⟩ 1 1 [.string W] rfl rfl ?c1 ?c2 ?c3 ?c4 ?c5 (by decide) ?_)
          case c1 => exact cell_one_new _ _ _
          case c2 => intro u hu; simp at hu; subst hu; rfl
          case c3 => unfold maxLen; omega
          case c4 => omega
          case c5 => simp; omega
          intro gg cc w5 hown hgrow hor
          have kc5 := kp_grown kc1 O4.out hgrow
          have OW := hid hown
          clear hown hgrow hor hzz
          have hz1 : ¬ 9223372036854775807 < P.size + 1 := by omega
          have hz2 : ¬ 9223372036854775807 < P.size + W.size := by omega
          have hz3 : ¬ 9223372036854775807 < P.size + 1 + W.size := by omega
          have KN : ∀ P' : ByteArray, bl P' = patL (ws.map bl ++ [bl W]) → Kept wc w5 (.slice (some ⟨gg, 0, none⟩) (k + 1) cc) P' (ws ++ [W]) := fun P' hP' => by
            refine ⟨?_, by rw [hP', List.map_append]; rfl, fun V hV => ?_⟩
            · rw [List.length_append, List.length_singleton, hwk, List.map_append]; exact OW.out
            · rcases List.mem_append.1 hV with q | q
              · exact H1.out.wrd V q
              · rw [List.mem_singleton.1 q]; exact HW.out
          have KN := hid KN
          by_cases hk0 : k = 0
          · obtain rfl : k1 = 1 := by omega
            subst hk0
            have hws0 : ws = [] := List.length_eq_zero_iff.1 (by omega)
            have hP0 : bl P = [] := by rw [H1.out.pat, hws0]; rfl
            have HP0 := hid hP0
            clear hP0
            go_wp2_with fail
            refine ⟨⟨_, ws ++ [W], 1, rfl, rfl, by rw [List.length_append, List.length_singleton]; omega, by omega, by omega, hid (KN.out _ ?_), kc5⟩, by simp [intOf]⟩
            rw [hws0]
            show bl (P ++ W) = bl W ++ []
            rw [List.append_nil]
            show (P ++ W).data.toList = _
            rw [ByteArray.data_append, Array.toList_append, show P.data.toList = [] from HP0.out]; rfl
          · have hg0 : 0 < k := by omega
            go_wp2_with fail
            refine ⟨⟨_, ws ++ [W], k1, rfl, rfl, by rw [List.length_append, List.length_singleton]; have := HK1.out; omega, by omega, by omega, hid (KN.out _ ?_), kc5⟩, by simp [intOf]; omega⟩
            rw [patL_snoc _ (by intro e; have := congrArg List.length e; simp at this; rw [this] at hwk; simp at hwk; omega), ← H1.out.pat]
            show ((P ++ ⟨#[124]⟩) ++ W : ByteArray).data.toList = _
            rw [ByteArray.data_append, Array.toList_append, ByteArray.data_append, Array.toList_append]
            simp
        · go_wp2_with fail
          go_meet
          case rel =>
            obtain ⟨AA, cc, e⟩ := HK.out.form
            exact ⟨P, ws, AA, ws.length, cc, rfl, e, rfl, by omega, e ▸ HK, kpc⟩
      · go_wp2_with fail
        go_meet
        case rel =>
          obtain ⟨AA, cc, e⟩ := HK.out.form
          exact ⟨P, ws, AA, ws.length, cc, rfl, e, rfl, by omega, e ▸ HK, kpc⟩
  case rest =>
  obtain ⟨P, ws, AA, L, cc, rfl, rfl, hwl, hL5, HK, kp2⟩ := hcut
  have kp3 := kp1.trans kp2
  have wL := wrap_i64_nat L (by omega)
  have HKP := hid kp3
  clear kp1 kp2 kp3
  go_upto_if 67 with fail
  go_cut [8, 9] from 65 (fun p l wx => ∃ (P : ByteArray) (ws : List ByteArray) (g L cc : Nat), p = .string P ∧ l = .slice (some ⟨g, 0, none⟩) L cc ∧ ws.length = L ∧ 1 ≤ L ∧ L ≤ 5 ∧ Hid (bl P = patL (ws.map bl)) ∧ Hid (∀ W ∈ ws, Wrd (bl W)) ∧ Hid (∀ j W, ws[j]? = some W → wx.cell? ⟨g, j, none⟩ = some (.string W)) ∧ Kp [] w wx)
  case first =>
    by_cases hL : L = 0
    · subst hL
      go_wp2_with fail
      go_meet
      case rel =>
        refine ⟨⟨#[98]⟩, [⟨#[98]⟩], wc.heap.size, 1, 1, rfl, rfl, rfl, by omega, by omega, hid rfl, hid (fun W hW => ?_), hid (fun j W hj => ?_), HKP.out.trans (Kp.alloc _ _ _)⟩
        · rw [List.mem_singleton.1 hW]
          exact ⟨by decide, by decide, fun u hu => by rw [List.mem_singleton.1 (show u ∈ [98] from hu)]; exact .inr (.inl rfl)⟩
        · match j, hj with
          | 0, hj =>
            obtain rfl : (⟨#[98]⟩ : ByteArray) = W := Option.some.inj hj
            simp
    · have hLb : ((L : Int) == 0) = false := by rw [beq_eq_false_iff_ne]; omega
      have hne : ws ≠ [] := by rintro rfl; simp at hwl; omega
      obtain ⟨g, rfl, hc⟩ := HK.out.some hne
      have HC := hid hc
      clear hc
      go_wp2_with fail
      go_meet
      case rel => exact ⟨P, ws, g, L, cc, rfl, rfl, hwl, by omega, hL5, hid HK.out.pat, hid HK.out.wrd, HC, HKP.out⟩
  case rest =>
  obtain ⟨P, ws, g, L, cc, rfl, rfl, hwl, hL1, hL5, HP, HW, HC, kp3⟩ := hcut
  have HCW : Hid (∀ wy, Kp [] wc wy → ∀ j W, ws[j]? = some W → wy.cell? ⟨g, j, none⟩ = some (.string W)) := hid (fun wy ky j W hj => by
    have hc := HC.out j W hj
    exact (ky.cell (World.block_lt_of_cell? _ _ hc) (by simp)).trans hc)
  have hTl : (bl T).length = T.size := rfl
  go_upto_block 4 with fail
  go_cut [12, 13, 14, 15] from 69 (fun f t _ _ wx => ∃ fr tt : Int, f = .int .i64 fr ∧ t = .int .i64 tt ∧ -1 ≤ fr ∧ fr ≤ 100 ∧ -1 ≤ tt ∧ tt ≤ 200 ∧ Hid (Fst (bl T) (ws.map bl) fr tt) ∧ Kp [] wc wx)
  case first =>
    go_wp2_with fail
    go_loopw [12, 13, 14, 15] (fun f t a _ wr => ∃ (k : Nat) (fr tt : Int), k ≤ T.size ∧ f = .int .i64 fr ∧ t = .int .i64 tt ∧ a = .int .i64 k ∧ Hid (Bef (bl T) ws k fr tt) ∧ Kp [] wc wr) (fun _ _ a _ _ => T.size - (intOf a).toNat)
    case atStart => exact ⟨0, -1, -1, by omega, rfl, rfl, rfl, hid (.inl ⟨rfl, rfl, fun i hi => by omega⟩), Kp.refl _ _⟩
    case round =>
      obtain ⟨k, fr, tt, hk, rfl, rfl, rfl, HB, kr⟩ := hrel
      have hbd := HB.out.bds
      by_cases hkT : k < T.size
      · by_cases hfr : fr < 0
        · obtain ⟨rfl, rfl, hbef⟩ : fr = -1 ∧ tt = -1 ∧ ∀ i, i < k → ∀ W ∈ ws, ¬ Stn (bl T) i (bl W) := by
            rcases HB.out with h | ⟨h, _⟩
            · exact h
            · omega
          have HBF := hid hbef
          clear hbef HB hbd
          obtain ⟨k1, hk1⟩ : ∃ k1 : Nat, (k : Int) + 1 = (k1 : Int) := ⟨k + 1, by omega⟩
          have wk1 := wrap_i64_nat k1 (by omega)
          have HK1 := hid (show k1 = k + 1 by omega)
          go_wp2_with fail
          go_loopw [12, 13, 15] (fun f t i ws' => ∃ (q : Nat) (fr tt : Int), q ≤ L ∧ f = .int .i64 fr ∧ t = .int .i64 tt ∧ i = .int .i64 q ∧ Hid (Tried (bl T) ws k q fr tt) ∧ Kp [] wc ws') (fun _ _ i _ => L - (intOf i).toNat)
          case atStart => exact ⟨0, -1, -1, by omega, rfl, rfl, rfl, hid (Tried.zero _ _ _), kr⟩
          case round =>
            obtain ⟨q, fr, tt, hq, rfl, rfl, rfl, HTR, ki⟩ := hrel
            have hbd := HTR.out.bds (by omega)
            by_cases hqL : q < L
            · have hqw : q < ws.length := by omega
              obtain ⟨W, hWq⟩ : ∃ W, ws[q]? = some W := ⟨ws[q], List.getElem?_eq_getElem hqw⟩
              have hwrd := HW.out W (List.mem_of_getElem? hWq)
              have hWsz : W.size ≤ 5 := hwrd.2.1
              obtain ⟨r, CR, hr⟩ := stands_at (T := T) (W := W) (k := k) (by omega) (by omega) hwrd.1
              have HR := hid hr
              have HCR := hid CR
              have HWQ := hid hWq
              have hcell := HCW.out _ ki q W hWq
              clear hwrd hr CR hWq hqw
              obtain ⟨q1, hq1⟩ : ∃ q1 : Nat, (q : Int) + 1 = (q1 : Int) := ⟨q + 1, by omega⟩
              have wq1 := wrap_i64_nat q1 (by omega)
              have HQ1 := hid (show q1 = q + 1 by omega)
              obtain ⟨sm, hsm⟩ : ∃ sm : Nat, (k : Int) + (W.size : Int) = (sm : Int) := ⟨k + W.size, by omega⟩
              have wsm := wrap_i64_nat sm (by omega)
              have HSM := hid (show sm = k + W.size by omega)
              have hkT' : k ≤ T.size := hk
              by_cases hr0 : r = 0
              · have hrb : ((r : Int) == 0) = true := by rw [beq_iff_eq]; exact hr0
                by_cases hgt : tt < (sm : Int)
                · go_wp2_with fail
                  go_quiet ((go_at_call 9; exact Calls.quiet_of_same (HCR.out _)))
                  go_wp2_with fail
                  refine ⟨⟨q1, _, _, by omega, rfl, rfl, rfl, hid ?_, ki.trans (Kp.drewN _ _ _)⟩, by simp [intOf]; omega⟩
                  have hh := HTR.out.yes HWQ.out hWsz (HR.out.1 hr0) (by have := HSM.out; omega)
                  rw [← HSM.out, ← HQ1.out] at hh
                  exact hh
                · go_wp2_with fail
                  go_quiet ((go_at_call 9; exact Calls.quiet_of_same (HCR.out _)))
                  go_wp2_with fail
                  refine ⟨⟨q1, _, _, by omega, rfl, rfl, rfl, hid ?_, ki.trans (Kp.drewN _ _ _)⟩, by simp [intOf]; omega⟩
                  have hh := HTR.out.no HWQ.out (fun _ => by have := HSM.out; omega)
                  rw [← HQ1.out] at hh
                  exact hh
              · have hrb : ((r : Int) == 0) = false := by rw [beq_eq_false_iff_ne]; exact hr0
                go_wp2_with fail
                go_quiet ((go_at_call 9; exact Calls.quiet_of_same (HCR.out _)))
                go_wp2_with fail
                refine ⟨⟨q1, _, _, by omega, rfl, rfl, rfl, hid ?_, ki.trans (Kp.drewN _ _ _)⟩, by simp [intOf]; omega⟩
                have hh := HTR.out.no HWQ.out (fun e => absurd (HR.out.2 e) hr0)
                rw [← HQ1.out] at hh
                exact hh
            · go_wp2_with fail
              refine ⟨⟨k1, _, _, by omega, rfl, rfl, rfl, hid ?_, ki⟩, by simp [intOf]; omega⟩
              have hh := Bef.next HBF.out HTR.out (by omega) (by omega) (by omega)
              rw [← HK1.out] at hh
              exact hh
        · go_wp2_with fail
          go_meet
          case rel => exact ⟨fr, tt, rfl, rfl, hbd.1, hbd.2.1, hbd.2.2.1, hbd.2.2.2, hid (HB.out.fst HW.out (.inr (by omega))), kr⟩
      · go_wp2_with fail
        go_meet
        case rel => exact ⟨fr, tt, rfl, rfl, hbd.1, hbd.2.1, hbd.2.2.1, hbd.2.2.2, hid (HB.out.fst HW.out (.inl (by omega))), kr⟩
  case rest =>
  obtain ⟨fr, tt, rfl, rfl, f1, f2, f3, f4, HF, kp4⟩ := hcut
  have hwrds : Wrds (ws.map bl) := wrds_of HW.out (by omega) (by omega)
  have HWS := hid hwrds
  have HWX := hid (hwrds.x (by rw [List.length_map]; omega))
  have HTX := hid (show ∀ u ∈ bl T, u ≠ 120 from fun u hu => lts_x HT.out u hu)
  have HPS : P.size ≤ 30 := by
    have := patL_len (ws.map bl) (fun W hW => (hwrds.2.2 W hW).2)
    rw [← HP.out, List.length_map] at this
    have e : (bl P).length = P.size := rfl
    omega
  have kp5 := kp3.trans kp4
  have n5 := hw.keep kp5 (by simp)
  have HC5 := hid (HCW.out _ kp4)
  clear hwrds HCW HC kp3 kp4 hTl
  go_wp2_with fail
  refine (found_words n5 HWS.out HP.out (by omega) HF.out).mono ?_
  rintro e w6 ⟨rfl, k6⟩
  have n6 := n5.keep k6 (by simp)
  have kp6 := kp5.trans k6
  have HC6 : Hid (∀ wy, Kp [] w6 wy → ∀ j W, ws[j]? = some W → wy.cell? ⟨g, j, none⟩ = some (.string W)) := hid (fun wy ky j W hj => by
    have hc := HC5.out j W hj
    exact ((k6.trans ky).cell (World.block_lt_of_cell? _ _ hc) (by simp)).trans hc)
  clear k6 n5 kp5 HC5
  have y1 : ¬ 9223372036854775807 < P.size + 2 := by omega
  have y2 : ¬ 9223372036854775807 < T.size + 1 := by omega
  go_upto_region 32 with fail
  go_cut [17] from 118 (fun b wx => ∃ bb, b = .bool bb ∧ (0 ≤ fr → bb = true) ∧ Kp [] w6 wx)
  case first =>
    by_cases hfr : fr < 0
    · go_wp2_with fail
      refine (found_wneg n6 HWX.out (pat_x HP.out HWS.out.1) (by rw [ByteArray.size_append]; show T.size + 1 ≤ 1000; omega) hfr).mono ?_
      rintro e w7 ⟨⟨bb, rfl⟩, k7⟩
      go_wp2_with fail
      go_meet
      case rel => exact ⟨bb, rfl, fun h => by omega, k7⟩
    · go_wp2_with fail
      refine (found_words n6 HWX.out (pat_x HP.out HWS.out.1) (by rw [ByteArray.size_append]; show T.size + 1 ≤ 1000; omega) (txt_x2 (fst_x HTX.out (wrd_of HW.out) HF.out (by omega)))).mono ?_
      rintro e w7 ⟨rfl, k7⟩
      go_wp2_with fail
      go_meet
      case rel => exact ⟨true, rfl, fun _ => rfl, k7⟩
  case rest =>
  obtain ⟨bb, rfl, hbb, k7⟩ := hcut
  have n7 := n6.keep k7 (by simp)
  obtain ⟨t1, ht1⟩ : ∃ t1 : Nat, (T.size : Int) + 1 = (t1 : Int) := ⟨T.size + 1, by omega⟩
  have wt1 := wrap_i64_nat t1 (by omega)
  have HT1 := hid ht1
  go_upto_if 126 with fail
  go_cut [17] from 118 (fun b wx => b = .bool true ∧ Kp [] w6 wx)
  case first =>
    by_cases hfr : fr < 0
    · go_wp2_with fail
      refine (found_words n7 HWX.out (pat_x HP.out HWS.out.1) (by rw [ByteArray.size_append]; show T.size + 1 ≤ 1000; omega) (HT1.out ▸ txt_x2 (fst_none HTX.out (wrd_of HW.out) HF.out hfr))).mono ?_
      rintro e w8 ⟨rfl, k8⟩
      go_wp2_with fail
      go_meet
      case rel => exact ⟨rfl, k7.trans k8⟩
    · go_wp2_with fail
      go_meet
      case rel => exact ⟨by first | rfl | rw [hbb (by omega)], k7⟩
  case rest =>
  obtain ⟨rfl, k8⟩ := hcut
  have n8 := n6.keep k8 (by simp)
  have kp8 := kp6.trans k8
  have HC8 := hid (HC6.out _ k8)
  obtain ⟨W0, hW0⟩ : ∃ W0, ws[0]? = some W0 := ⟨ws[0], List.getElem?_eq_getElem (by omega)⟩
  have HMEM : Hid (bl W0 ∈ ws.map bl) := hid (List.mem_map.2 ⟨W0, List.mem_of_getElem? hW0, rfl⟩)
  have HPL : Hid ((((⟨#[94, 40]⟩ : ByteArray) ++ P) ++ (⟨#[41, 43, 36]⟩ : ByteArray)).data.toList = 94 :: 40 :: (patL (ws.map bl) ++ [41, 43, 36])) := hid (by
    rw [ByteArray.data_append, ByteArray.data_append, Array.toList_append, Array.toList_append, ← HP.out]; rfl)
  have HTT : Hid ((W0 ++ W0).data.toList = bl W0 ++ bl W0) := hid (by rw [ByteArray.data_append, Array.toList_append])
  have hL0 : W0.size ≤ 5 := (wrd_of HW.out _ HMEM.out).2.1
  have c80 := HC8.out 0 W0 hW0
  obtain ⟨N, hN⟩ : ∃ N : Nat, N = 2 * W0.size := ⟨_, rfl⟩
  have HN := hid hN
  have s1 : (2 : Int) * (W0.size : Int) = (N : Int) := by omega
  have v1 := wrap_i64_nat N (by omega)
  have y3 : ¬ 9223372036854775807 < P.size + 2 + 3 := by omega
  have y4 : ¬ 9223372036854775807 < 2 + P.size := by omega
  have y5 : ¬ 9223372036854775807 < 2 + P.size + 3 := by omega
  have y6 : ¬ 9223372036854775807 < W0.size + W0.size := by omega
  clear hN HC6 HC8
  go_upto_region 35 with fail
  go_cut [18, 19, 20] from 137 (fun m e _ wx => ∃ (q c : Nat) (v : Int), m = .slice (some ⟨q, 0, none⟩) 4 c ∧ e = .int .i64 0 ∧ wx.cell? ⟨q, 1, none⟩ = some (.int .i64 (N : Int)) ∧ wx.cell? ⟨q, 2, none⟩ = some (.int .i64 v) ∧ wx.cell? ⟨q, 3, none⟩ = some (.int .i64 (N : Int)) ∧ v < (N : Int) ∧ wx.cell? ⟨g, 0, none⟩ = some (.string W0) ∧ Kp [] w wx)
  case first =>
    go_region_with (go_at_call 13; refine (match_words (n8.keep (Kp.drew [] _) (by simp)) HWS.out (wrd_of HW.out) HMEM.out HPL.out HTT.out).mono ?_; rintro e w9 ⟨k9, q, c, v, rfl, c1, c2, c3, hv⟩)
    all_goals
      simp only [List.getElem_toArray, List.getElem_cons_succ, List.getElem_cons_zero, Act.put, List.setIfInBounds_toArray, List.set_cons_zero, List.set_cons_succ]
      go_wp2_with fail
      go_meet
      case rel =>
        have hn : ((2 * (bl W0).length : Nat) : Int) = (N : Int) := by have e : (bl W0).length = W0.size := rfl; rw [e, HN.out]
        rw [hn] at c1 c3 hv
        exact ⟨q, c, v, rfl, rfl, c1, c2, c3, hv, (k9.cell (World.block_lt_of_cell? _ _ c80) (by simp)).trans c80, kp8.trans ((Kp.drew _ _).trans k9)⟩
  case rest =>
  obtain ⟨q, c, v, rfl, rfl, d1, d2, d3, hv, d0, kp9⟩ := hcut
  go_wp2_with fail
  go_quiet (fail)
  go_wp2_with fail
  go_ret
  exact ⟨rfl, kp9.trans (by first | exact Kp.refl _ _ | exact Kp.drewN _ _ _ | exact Kp.drew _ _)⟩
end Go.Proofs.YtanpiomfnbiilaaDoor
