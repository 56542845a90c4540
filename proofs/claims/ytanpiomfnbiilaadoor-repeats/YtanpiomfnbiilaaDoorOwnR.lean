/- Whatever the numbers are, the law on repeats returns true: so many equal letters are found as may be, and so with two in turn. Its condition: the table of the classes' names is as the program's text lays it, and the card ties that to the text. -/
import Derived.Test.YtanpiomfnbiilaaDoorTA
import Derived.Test.YtanpiomfnbiilaaDoorZb
import Derived.Test.YtanpiomfnbiilaaDoorZs
import Derived.Carry
import Derived.ChangeMaps5
import Derived.Deep.Cut
import Derived.Deep.CutRange
import Derived.Test.YtanpiomfnbiilaaDoorTie
import Derived.Test.YtanpiomfnbiilaaDoorCards
import Derived.SevenTiedAt

/- The law on repeats. -/
namespace Go.Proofs.YtanpiomfnbiilaaDoor
open Go.RowKit

theorem pk_nat2 (c n : Int) (h : 0 < n) : ∃ a : Nat, pk c n = a ∧ (a : Int) < n := by
  obtain ⟨h1, h2⟩ := pk_bd c n h
  exact ⟨(pk c n).toNat, by omega, by omega⟩
theorem dg_size {n : Nat} (hn : n ≤ 20) : (dg n).size ≤ 2 := by rw [size_list]; exact dgl_len hn

theorem list_app (x y : ByteArray) : (x ++ y).data.toList = x.data.toList ++ y.data.toList := by rw [ByteArray.data_append, Array.toList_append]
section
variable {DA DB X Y : ByteArray} {a b k : Nat}
theorem src_both (h1 : DA.data.toList = dgl a) (h2 : DB.data.toList = dgl b) : ((⟨#[97, 123]⟩ : ByteArray) ++ DA ++ ⟨#[44]⟩ ++ DB ++ ⟨#[125]⟩).data.toList = 97 :: 123 :: (dgl a ++ 44 :: (dgl b ++ [125])) := by
  simp only [list_app, h1, h2]; simp
theorem src_from (h1 : DA.data.toList = dgl a) : ((⟨#[94, 97, 123]⟩ : ByteArray) ++ DA ++ ⟨#[44, 125, 36]⟩).data.toList = 94 :: 97 :: 123 :: (dgl a ++ [44, 125, 36]) := by
  simp only [list_app, h1]; simp
theorem src_just (h1 : DA.data.toList = dgl a) : ((⟨#[94, 97, 123]⟩ : ByteArray) ++ DA ++ ⟨#[125, 36]⟩).data.toList = 94 :: 97 :: 123 :: (dgl a ++ [125, 36]) := by
  simp only [list_app, h1]; simp
theorem src_pairs (h1 : DA.data.toList = dgl a) (h2 : DB.data.toList = dgl b) : ((⟨#[120, 40, 97, 98, 41, 123]⟩ : ByteArray) ++ DA ++ ⟨#[44]⟩ ++ DB ++ ⟨#[125]⟩).data.toList = 120 :: 40 :: 97 :: 98 :: 41 :: 123 :: (dgl a ++ 44 :: (dgl b ++ [125])) := by
  simp only [list_app, h1, h2]; simp
theorem txt_b (h : X.data.toList = aL k) : (X ++ ⟨#[98]⟩).data.toList = aL k ++ [98] := by
  simp only [list_app, h]
theorem txt_x (h : Y.data.toList = abL k) : ((⟨#[120]⟩ : ByteArray) ++ Y).data.toList = 120 :: abL k := by
  simp only [list_app, h]; simp
end

set_option maxRecDepth 100000 in
set_option maxHeartbeats 8000000 in
theorem repeats_any (least more n : Int) (h1 : -9223372036854775808 ≤ least) (h2 : least ≤ 9223372036854775807) (h3 : -9223372036854775808 ≤ more) (h4 : more ≤ 9223372036854775807) (h5 : -9223372036854775808 ≤ n) (h6 : n ≤ 9223372036854775807) (w : World) (hw : Nm w) :
    Calls Tryd.prog 6 #[.int .i64 least, .int .i64 more, .int .i64 n] w fun e w' => e = .returned (.bool true) ∧ Kp [] w w' := by
  go_enter Tryd.func6, Tryd.ntmps6
  go_wp2_with fail
  refine (pick_any least 21 h1 h2 (by omega) (by omega) _).mono ?_
  rintro e w1 ⟨rfl, rfl⟩
  obtain ⟨a, ha, ha'⟩ := pk_nat2 least 21 (by omega)
  rw [ha]
  clear ha
  go_wp2_with fail
  refine (pick_any more (21 - a) h3 h4 (by omega) (by omega) _).mono ?_
  rintro e w2 ⟨rfl, rfl⟩
  obtain ⟨c, hc, hc'⟩ := pk_nat2 more (21 - a) (by omega)
  rw [hc]
  clear hc
  obtain ⟨b, hb⟩ : ∃ b : Nat, (a : Int) + (c : Int) = (b : Int) := ⟨a + c, by omega⟩
  have wb := wrap_i64_nat b (by omega)
  have hab : a ≤ b := by omega
  have hb20 : b ≤ 20 := by omega
  have HB := hid hb
  go_wp2_with fail
  refine (pick_any n 40 h5 h6 (by omega) (by omega) _).mono ?_
  rintro e w3 ⟨rfl, rfl⟩
  obtain ⟨k, hk, hk'⟩ := pk_nat2 n 40 (by omega)
  rw [hk]
  clear hk hb HB hc' wb h1 h2 h3 h4 h5 h6
  have hk40 : k ≤ 40 := by omega
  go_wp2_with fail
  go_loopw [10, 11, 12] (fun o t i wr => ∃ (q : Nat) (X Y : ByteArray), q ≤ k ∧ o = .string X ∧ t = .string Y ∧ i = .int .i64 q ∧ wr = w3 ∧ Hid (X.data.toList = aL q) ∧ Hid (Y.data.toList = abL q)) (fun _ _ i _ => k - (intOf i).toNat)
  case atStart => exact ⟨0, ⟨#[]⟩, ⟨#[]⟩, by omega, rfl, rfl, rfl, rfl, hid rfl, hid rfl⟩
  case round =>
    obtain ⟨q, X, Y, hq, rfl, rfl, rfl, rfl, HX, HY⟩ := hrel
    have hX : X.size ≤ 40 := by rw [size_list, HX.out, aL_len]; omega
    have hY : Y.size ≤ 80 := by rw [size_list, HY.out, abL_len]; omega
    have hz1 : ¬ 9223372036854775807 < X.size + 1 := by omega
    have hz2 : ¬ 9223372036854775807 < Y.size + 2 := by omega
    by_cases hlt : q < k
    · obtain ⟨q1, hq1⟩ : ∃ q1 : Nat, (q : Int) + 1 = (q1 : Int) := ⟨q + 1, by omega⟩
      have wq := wrap_i64_nat q1 (by omega)
      have HQ := hid (show q1 = q + 1 by omega)
      go_wp2_with fail
      refine ⟨⟨q1, _, _, by omega, rfl, rfl, rfl, trivial, hid ?_, hid ?_⟩, by simp [intOf]; omega⟩
      · rw [ByteArray.data_append, Array.toList_append, HX.out, HQ.out]
        unfold aL
        rw [List.replicate_succ']
      · rw [ByteArray.data_append, Array.toList_append, HY.out, HQ.out]
        rfl
    · obtain rfl : q = k := by omega
      obtain ⟨DA, hDA⟩ : ∃ DA, dg a = DA := ⟨_, rfl⟩
      obtain ⟨DB, hDB⟩ : ∃ DB, dg b = DB := ⟨_, rfl⟩
      have CA := hid (hDA ▸ digits_any a (by omega))
      have CB := hid (hDB ▸ digits_any b (by omega))
      have hda : DA.size ≤ 2 := by rw [← hDA]; exact dg_size (by omega)
      have hdb : DB.size ≤ 2 := by rw [← hDB]; exact dg_size (by omega)
      have LA := hid (show DA.data.toList = dgl a by rw [← hDA]; rfl)
      have LB := hid (show DB.data.toList = dgl b by rw [← hDB]; rfl)
      clear hDA hDB
      have y1 : ¬ 9223372036854775807 < 2 + DA.size := by omega
      have y2 : ¬ 9223372036854775807 < 2 + DA.size + 1 := by omega
      have y3 : ¬ 9223372036854775807 < 2 + DA.size + 1 + DB.size := by omega
      have y4 : ¬ 9223372036854775807 < 2 + DA.size + 1 + DB.size + 1 := by omega
      have y5 : ¬ 9223372036854775807 < 3 + DA.size := by omega
      have y6 : ¬ 9223372036854775807 < 3 + DA.size + 3 := by omega
      have y7 : ¬ 9223372036854775807 < 3 + DA.size + 2 := by omega
      have y8 : ¬ 9223372036854775807 < 6 + DA.size := by omega
      have y9 : ¬ 9223372036854775807 < 6 + DA.size + 1 := by omega
      have y10 : ¬ 9223372036854775807 < 6 + DA.size + 1 + DB.size := by omega
      have y11 : ¬ 9223372036854775807 < 6 + DA.size + 1 + DB.size + 1 := by omega
      have y12 : ¬ 9223372036854775807 < 1 + Y.size := by omega
      have n0 := hw
      have ha20 : a ≤ 20 := by omega
      obtain ⟨tt, hto⟩ : ∃ tt : Nat, tt = min q b := ⟨_, rfl⟩
      obtain ⟨fr, hfr⟩ : ∃ fr : Int, (q < a ∧ fr = -1) ∨ (a ≤ q ∧ fr = 0) := by
        by_cases h : q < a
        · exact ⟨-1, .inl ⟨h, rfl⟩⟩
        · exact ⟨0, .inr ⟨by omega, rfl⟩⟩
      obtain ⟨ex, hex⟩ : ∃ ex : Int, (q ≠ a ∧ ex = -1) ∨ (q = a ∧ ex = 0) := by
        by_cases h : q = a
        · exact ⟨0, .inr ⟨h, rfl⟩⟩
        · exact ⟨-1, .inl ⟨h, rfl⟩⟩
      have HTO := hid hto
      have HFR := hid hfr
      have HEX := hid hex
      clear hto hfr hex
      go_upto_if 45 with fail
      go_cut [14] from 45 (fun t wx => t = .int .i64 tt ∧ wx = wr)
      case first =>
        by_cases hbk : b < q
        · have hx : b = tt := by have := HTO.out; omega
          go_wp2_with fail
          go_meet
          case rel => exact ⟨by rw [hx], rfl⟩
        · have hx : q = tt := by have := HTO.out; omega
          go_wp2_with fail
          go_meet
          case rel => exact ⟨by rw [hx], rfl⟩
      case rest =>
      obtain ⟨rfl, rfl⟩ := hcut
      go_upto_if 49 with fail
      go_cut [13] from 45 (fun t wx => t = .int .i64 fr ∧ wx = wc)
      case first =>
        by_cases hbk : q < a
        · have hx : fr = -1 := by have := HFR.out; omega
          go_wp2_with fail
          go_meet
          case rel => exact ⟨by rw [hx], rfl⟩
        · have hx : fr = 0 := by have := HFR.out; omega
          go_wp2_with fail
          go_meet
          case rel => exact ⟨by rw [hx], rfl⟩
      case rest =>
      obtain ⟨rfl, rfl⟩ := hcut
      go_wp2_with fail
      refine (CA.out _).mono ?_
      rintro e w4 ⟨rfl, k4⟩
      have n4 := n0.keep k4 (by simp)
      go_wp2_with fail
      refine (CB.out _).mono ?_
      rintro e w5 ⟨rfl, k5⟩
      have n5 := n4.keep k5 (by simp)
      go_wp2_with fail
      refine (found_both n5 hab hb20 hk40 (src_both LA.out LB.out) (txt_b HX.out) (fun h => by have := HFR.out; omega) (fun h => ⟨by have := HFR.out; omega, by have := HTO.out; omega⟩)).mono ?_
      rintro e w6 ⟨rfl, k6⟩
      have n6 := n5.keep k6 (by simp)
      have K6 := k4.trans (k5.trans k6)
      clear k4 k5 k6 n4 n5
      go_wp2_with fail
      refine (CA.out _).mono ?_
      rintro e w7 ⟨rfl, k7⟩
      have n7 := n6.keep k7 (by simp)
      go_wp2_with fail
      refine (found_from n7 ha20 hk40 (src_from LA.out) HX.out (fun h => by have := HFR.out; omega) (fun h => by have := HFR.out; omega)).mono ?_
      rintro e w8 ⟨rfl, k8⟩
      have n8 := n7.keep k8 (by simp)
      have K8 := K6.trans (k7.trans k8)
      clear k7 k8 n7 n6 K6
      go_upto_if 73 with fail
      go_cut [17] from 45 (fun t wx => t = .int .i64 ex ∧ wx = w8)
      case first =>
        by_cases hbk : q = a
        · have hx : ex = 0 := by have := HEX.out; omega
          have hne : ((q : Int) == (a : Int)) = true := by rw [beq_iff_eq]; omega
          go_wp2_with fail
          go_meet
          case rel => exact ⟨by rw [hx], rfl⟩
        · have hx : ex = -1 := by have := HEX.out; omega
          have hne : ((q : Int) == (a : Int)) = false := by rw [beq_eq_false_iff_ne]; omega
          go_wp2_with fail
          go_meet
          case rel => exact ⟨by rw [hx], rfl⟩
      case rest =>
      obtain ⟨rfl, rfl⟩ := hcut
      go_wp2_with fail
      refine (CA.out _).mono ?_
      rintro e w9 ⟨rfl, k9⟩
      have n9 := n8.keep k9 (by simp)
      go_wp2_with fail
      refine (found_just n9 ha20 hk40 (src_just LA.out) HX.out (fun h => by have := HEX.out; omega) (fun h => by have := HEX.out; omega)).mono ?_
      rintro e w10 ⟨rfl, k10⟩
      have n10 := n9.keep k10 (by simp)
      have K10 := K8.trans (k9.trans k10)
      clear k9 k10 n9 n8 K8
      go_wp2_with fail
      refine (CA.out _).mono ?_
      rintro e w11 ⟨rfl, k11⟩
      have n11 := n10.keep k11 (by simp)
      go_wp2_with fail
      refine (CB.out _).mono ?_
      rintro e w12 ⟨rfl, k12⟩
      have n12 := n11.keep k12 (by simp)
      go_wp2_with fail
      refine (match_pairs n12 hab hb20 hk40 (src_pairs LA.out LB.out) (txt_x HY.out)).mono ?_
      rintro e w13 ⟨k13, res⟩
      have K13 := K10.trans (k11.trans (k12.trans k13))
      clear k11 k12 k13 n11 n12 n10 K10
      rcases res with ⟨hka, rfl⟩ | ⟨hka, g, cc, rfl, c0, c1, c2, c3⟩
      · have hx : fr = -1 := by have := HFR.out; omega
        subst hx
        go_wp2_with fail
        go_ret
        exact ⟨rfl, K13⟩
      · have hx : fr = 0 := by have := HFR.out; omega
        subst hx
        have hm := HTO.out
        rw [← hm] at c1 c2 c3
        by_cases ht0 : tt = 0
        · obtain ⟨d2, d3⟩ := c2 ht0
          rw [ht0] at c1 ⊢
          clear c2 c3 hm ht0 HTO
          have hN : ((1 + 2 * 0 : Nat) : Int) = 1 := rfl
          rw [hN] at c1
          go_wp2_with fail
          go_ret
          exact ⟨rfl, K13⟩
        · obtain ⟨d2, d3⟩ := c3 (by omega)
          have htb : ((tt : Int) == 0) = false := by rw [beq_eq_false_iff_ne]; omega
          obtain ⟨N, hN⟩ : ∃ N : Nat, N = 1 + 2 * tt := ⟨_, rfl⟩
          obtain ⟨M, hM⟩ : ∃ M : Nat, M = 1 + 2 * tt - 2 := ⟨_, rfl⟩
          obtain ⟨T, hT⟩ : ∃ T : Nat, T = 2 * tt := ⟨_, rfl⟩
          have htt : tt ≤ 20 := by omega
          have s1 : (2 : Int) * (tt : Int) = (T : Int) := by omega
          have s2 : (1 : Int) + (T : Int) = (N : Int) := by omega
          have s3 : (N : Int) - 2 = (M : Int) := by omega
          have v1 := wrap_i64_nat T (by omega)
          have v2 := wrap_i64_nat N (by omega)
          have v3 := wrap_i64_nat M (by omega)
          rw [← hN] at c1 d3
          rw [← hM] at d2
          clear c2 c3 hm HTO hN hM hT htt
          go_wp2_with fail
          go_ret
          exact ⟨rfl, K13⟩
end Go.Proofs.YtanpiomfnbiilaaDoor

/- The law on repeats: whatever the numbers are, it returns true, and the table of names alone is asked of the start. -/
namespace Go.Proofs.YtanpiomfnbiilaaDoor
open Go.ChangeShapes Go.WideShapes Go.ChangeAt Go.RowKit

set_option maxRecDepth 100000 in
theorem repeats_lifted (os : Os) (started : os.Started) (H : Type) (enc : TypeId × Value → H) :
    ReturnsInHanded {} Tryd.checked os 6 .any (fun w args => (Rows.repeatsSpec.pre enc Tryd.prog Tryd.f6 Rows.repeatsRow.domain false w args ∧ laidMetH Tryd.prog laidT w) ∧ sizedMet enc Tryd.prog Tryd.f6 (OpenSpec.ofChange Rows.repeatsSpec) false w args)
      (Rows.repeatsSpec.post enc Tryd.prog Tryd.f6 false true false false) := by
  refine returnsInHanded_of_change_and (C := Tryd.checked) (X := fun w _ => laidMetH Tryd.prog laidT w) (fun _ _ _ hh h => h.of_heap hh) own0 started (by kernel_rfl) Tryd.func6
    (ChangeSpec.witness_shaped (enc := enc) (C := Tryd.checked) (os := os) (X := fun w _ => laidMetH Tryd.prog laidT w) false (World.laidAll Tryd.prog os laidT) #[.int .i64 0, .int .i64 0, .int .i64 0] 8 (World.laidAll_os _ _ _)
      (World.shaped_of_ZipB (by kernel_rfl) (by kernel_rfl)) (by kernel_rfl) (by kernel_rfl) (by kernel_rfl)
      (by rw [MakeChecks.laidMetH_plain _ _ _ (by kernel_rfl)]; exact laidMet_laidAll _ (by kernel_rfl) (by kernel_rfl))) ?_
  intro W base args ds gs before hval0 hW _ _ hL _
  have hval : ∀ (j : Nat) t v, (Tryd.f6).params[j]? = some t → args[j]? = some v → Value.okWide Tryd.prog W .any base t v := hval0
  have hW' := hW
  obtain ⟨p, q, hA0, hV, rfl, _, _⟩ := hW
  have hA : DataW.TrodAll enc Tryd.prog W 0 (fun _ => true) true (Tryd.f6).params.toList args.toList ds p := hA0
  rw [Tryd.params6] at hA hval
  obtain ⟨v0, v1, v2, d0, d1, d2, p0, p1, p2, rfl, rfl, rfl, h0, h1, h2⟩ := trodAll_three hA
  obtain ⟨rfl, rfl⟩ := trodVars_none hV
  obtain ⟨a0, rfl, rfl, rfl, w0⟩ := open_int Tryd.underlying3 (hval 0 3 v0 rfl rfl) h0
  obtain ⟨a1, rfl, rfl, rfl, w1⟩ := open_int Tryd.underlying3 (hval 1 3 v1 rfl rfl) h1
  obtain ⟨a2, rfl, rfl, rfl, w2⟩ := open_int Tryd.underlying3 (hval 2 3 v2 rfl rfl) h2
  clear hA0 hval0
  simp only [List.append_nil] at hW'
  have b0 := wf_i64 w0
  have b1 := wf_i64 w1
  have b2 := wf_i64 w2
  refine (repeats_any a0 a1 a2 b0.1 b0.2 b1.1 b1.2 b2.1 b2.2 W (nm_of hL)).mono fun e W' ⟨he, hk⟩ => ?_
  subst he
  refine ⟨_, rfl, ⟨_, _, [], [], [], [], hW', trodAll_mk1 (shut_bool Tryd.underlying4 _), trodAll_mk3 (shut_int Tryd.underlying3 w0) (shut_int Tryd.underlying3 w1) (shut_int Tryd.underlying3 w2), rfl, hk.below.frame _, fun h => by cases h⟩⟩

theorem repeats_holds : Rows.RepeatsSaid :=
  OpenClaim.holds_of_wide 6 Tryd.f6 rfl rfl rfl rfl rfl rfl rfl ⟨rfl, rfl, rfl, rfl, rfl⟩ rfl rfl rfl rfl rfl (by kernel_rfl) Tryd.func6 (by kernel_rfl)
    (of_decide_eq_true (by kernel_rfl)) (by unfold Func.isWrapper; first | (rw [if_pos (by decide +kernel)]; kernel_rfl) | (rw [if_neg (by decide +kernel)]; exact ⟨rfl, rfl⟩))
    (fun os started H enc _ => repeats_lifted os started H enc)
end Go.Proofs.YtanpiomfnbiilaaDoor

namespace Go.Proofs.YtanpiomfnbiilaaDoor
open Go

theorem repeats_card : Rows.RepeatsCardSaid :=
  Claim7.holds_tied_plain_at .later [] [.data] true (true, "4e3fe4e5d0283e2c7e9f72b87a7db5b5c2014ddfbd4d5077fe89b89153b18cb7") true
    repeats_holds (fun _ h => by cases h) (by kernel_rfl) (fun _ h => by cases h) repeats_row_tie rfl ⟨rfl, rfl⟩ (by kernel_rfl) rfl
    (fun f fn hf hfn => by
      obtain rfl : f = 6 := Option.some.inj ((show Tryd.prog.funcNamed "ribbon/ribbonkeep.Repeats" = some 6 by kernel_rfl).symm.trans hf) |>.symm
      obtain rfl : fn = Tryd.f6 := (Option.some.inj ((Tryd.func6).symm.trans hfn)).symm
      exact ⟨by kernel_rfl, fun j t ht => by
        rw [Tryd.params6] at ht
        have hm : t ∈ [3, 3, 3] := by simpa using Array.mem_of_getElem? ht
        have hall : ([3, 3, 3].all fun u => !Tryd.prog.wantsStandIn u) = true := by kernel_rfl
        exact (show Tryd.prog.wantsStandIn t = false by simpa using List.all_eq_true.1 hall t hm)⟩)
    (by kernel_rfl)
#print axioms repeats_card
end Go.Proofs.YtanpiomfnbiilaaDoor
