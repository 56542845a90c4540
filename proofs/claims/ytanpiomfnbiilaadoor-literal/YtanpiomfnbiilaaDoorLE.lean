/- The law on texts that are found as they stand. -/
import Derived.Test.YtanpiomfnbiilaaDoorBA
import Derived.Test.YtanpiomfnbiilaaDoorZb
import Derived.Test.YtanpiomfnbiilaaDoorZs
import Derived.Carry
import Derived.ChangeMaps5
/- The law on texts that are found as they stand. -/
namespace Go.Proofs.YtanpiomfnbiilaaDoor
open Go.RowKit

theorem pk_nat' (c n : Int) (h : 0 < n) : ∃ a : Nat, pk c n = a ∧ (a : Int) < n := by
  obtain ⟨h1, h2⟩ := pk_bd c n h
  exact ⟨(pk c n).toNat, by omega, by omega⟩
theorem short_size (s : ByteArray) (n : Nat) : (if n < s.size then s.extract 0 n else s).size ≤ n := by
  split
  · simp; omega
  · omega

theorem head_eq (l : List UInt8) : (⟨#[94]⟩ : ByteArray) ++ quoteL l = ⟨(94 :: l.flatMap quote1).toArray⟩ := by
  apply ByteArray.ext
  rw [ByteArray.data_append]
  apply Array.toList_inj.1
  rw [Array.toList_append]
  unfold quoteL
  simp
theorem tail_eq (l : List UInt8) : quoteL l ++ (⟨#[36]⟩ : ByteArray) = ⟨(l.flatMap quote1 ++ [36]).toArray⟩ := by
  apply ByteArray.ext
  rw [ByteArray.data_append]
  apply Array.toList_inj.1
  rw [Array.toList_append]
  unfold quoteL
  simp

/-- Where a text stands first in another one, or -1. -/
def First (T V : ByteArray) (x : Int) : Prop := (∃ a : Nat, standsB T V a = true ∧ (∀ b, b < a → standsB T V b = false) ∧ x = a) ∨ ((∀ a, standsB T V a = false) ∧ x = -1)
theorem First.bd {T V : ByteArray} {x : Int} (h : First T V x) : -1 ≤ x ∧ x ≤ T.size := by
  rcases h with ⟨a, h, _, rfl⟩ | ⟨_, rfl⟩
  · have := ((stands_iff V T a).1 h).1
    omega
  · omega
theorem stands_first {s v : ByteArray} (hs : s.size ≤ 100000) (hv : v.size ≤ 100000) (w : World) : Calls Tryd.prog 9 #[.string s, .string v, .int .i64 0] w fun e w' => ∃ x, e = .returned (.int .i64 x) ∧ First s v x ∧ -1 ≤ x ∧ x ≤ s.size ∧ Kp [] w w' := by
  refine (stands_any hs hv 0 (by omega) w).mono ?_
  rintro e w' ⟨k, ⟨i, _, rfl, h1, h2⟩ | ⟨rfl, h⟩⟩
  · have f : First s v i := .inl ⟨i, h1, fun b hb => h2 b (by omega) hb, rfl⟩
    exact ⟨i, rfl, f, f.bd.1, f.bd.2, k⟩
  · have f : First s v (-1) := .inr ⟨fun j => h j (by omega), rfl⟩
    exact ⟨-1, rfl, f, f.bd.1, f.bd.2, k⟩
theorem found_first {v text : ByteArray} {w : World} (hw : Nm w) (hv : v.size ≤ 40) (ht : text.size ≤ 1000) {x : Int} (h : First text v x) :
    Calls Tryd.prog 10 #[.string (quoteL v.data.toList), .string text, .int .i64 x, .int .i64 (x + v.size)] w fun e w' => e = .returned (.bool true) ∧ Kp [] w w' := by
  refine found_quote hw hv ht ?_
  rcases h with ⟨a, h1, h2, rfl⟩ | ⟨h1, rfl⟩
  · exact .inl ⟨a, h1, h2, rfl, by omega⟩
  · exact .inr ⟨h1, rfl⟩

set_option maxRecDepth 100000 in
set_option maxHeartbeats 4000000 in
theorem literal_any (text any : ByteArray) (fr n : Int) (h1 : -9223372036854775808 ≤ fr) (h2 : fr ≤ 9223372036854775807) (h3 : -9223372036854775808 ≤ n) (h4 : n ≤ 9223372036854775807) (w : World) (hw : Nm w) :
    Calls Tryd.prog 3 #[.string text, .int .i64 fr, .int .i64 n, .string any] w fun e w' => e = .returned (.bool true) ∧ Kp [] w w' := by
  go_enter Tryd.func3, Tryd.ntmps3
  go_wp2_with fail
  refine (short_any text 300 (by omega) _).mono ?_
  rintro e w1 ⟨rfl, rfl⟩
  obtain ⟨T, hT, hT'⟩ : ∃ T, T = (if 300 < text.size then text.extract 0 300 else text) ∧ T.size ≤ 300 := ⟨_, rfl, short_size _ _⟩
  rw [← hT]
  clear hT
  go_wp2_with fail
  refine (pick_any fr (T.size + 1) h1 h2 (by omega) (by omega) _).mono ?_
  rintro e w2 ⟨rfl, rfl⟩
  obtain ⟨a, ha, ha'⟩ := pk_nat' fr (T.size + 1) (by omega)
  rw [ha]
  clear ha
  go_wp2_with fail
  refine (pick_any n (T.size - a + 1) h3 h4 (by omega) (by omega) _).mono ?_
  rintro e w3 ⟨rfl, rfl⟩
  obtain ⟨d, hd, hd'⟩ := pk_nat' n (T.size - a + 1) (by omega)
  rw [hd]
  clear hd
  have hab : a + d ≤ T.size := by omega
  go_wp2_with fail
  refine (short_any (T.extract a (a + d)) 40 (by omega) _).mono ?_
  rintro e w4 ⟨rfl, rfl⟩
  obtain ⟨V, hV, hV'⟩ : ∃ V, V = (if 40 < (T.extract a (a + d)).size then (T.extract a (a + d)).extract 0 40 else T.extract a (a + d)) ∧ V.size ≤ 40 := ⟨_, rfl, short_size _ _⟩
  rw [← hV]
  clear hV
  go_wp2_with fail
  refine (stands_first (by omega) (by omega) _).mono ?_
  rintro e w5 ⟨x, rfl, fx, x1, x2, k5⟩
  have FX := hid fx
  clear fx
  have n5 := hw.keep k5 (by simp)
  go_wp2_with fail
  refine (quoted_any V (by omega) _).mono ?_
  rintro e w6 ⟨rfl, k6⟩
  have n6 := n5.keep k6 (by simp)
  go_wp2_with fail
  refine (found_first n6 hV' (by omega) FX.out).mono ?_
  rintro e w7 ⟨rfl, k7⟩
  have n7 := n6.keep k7 (by simp)
  have K7 := k5.trans (k6.trans k7)
  clear k5 k6 k7 n5 n6 hw
  go_wp2_with fail
  refine (short_any any 40 (by omega) _).mono ?_
  rintro e w8 ⟨rfl, rfl⟩
  obtain ⟨A, hA, hA'⟩ : ∃ A, A = (if 40 < any.size then any.extract 0 40 else any) ∧ A.size ≤ 40 := ⟨_, rfl, short_size _ _⟩
  rw [← hA]
  clear hA
  go_wp2_with fail
  refine (stands_first (by omega) (by omega) _).mono ?_
  rintro e w9 ⟨y, rfl, fy, y1, y2, k9⟩
  have FY := hid fy
  clear fy
  have n9 := n7.keep k9 (by simp)
  go_wp2_with fail
  refine (quoted_any A (by omega) _).mono ?_
  rintro e w10 ⟨rfl, k10⟩
  have n10 := n9.keep k10 (by simp)
  go_wp2_with fail
  refine (found_first n10 hA' (by omega) FY.out).mono ?_
  rintro e w11 ⟨rfl, k11⟩
  have n11 := n10.keep k11 (by simp)
  have K11 := K7.trans (k9.trans (k10.trans k11))
  clear k9 k10 k11 n9 n10 K7 n7
  have key0 : standsB T A 0 = (decide (A.size ≤ T.size) && ((T.extract 0 A.size).toList == A.toList)) := by unfold standsB; rw [Nat.zero_add]
  have KEY0 := hid key0
  clear key0
  obtain ⟨Q, hQ⟩ : ∃ Q, quoteL A.data.toList = Q := ⟨_, rfl⟩
  have HE1 := hid (hQ ▸ head_eq A.data.toList)
  have HE2 := hid (hQ ▸ tail_eq A.data.toList)
  have hqs : Q.size ≤ 80 := by
    have := quoteL_size A.data.toList
    rw [hQ] at this
    have e : A.data.toList.length = A.size := rfl
    omega
  have HQ := hid hQ
  clear hQ
  have hz1 : ¬ 9223372036854775807 < 1 + Q.size := by omega
  have hz2 : ¬ 9223372036854775807 < Q.size + 1 := by omega
  by_cases hle : A.size ≤ T.size
  · obtain ⟨o, ho⟩ : ∃ o : Nat, (T.size : Int) - (A.size : Int) = (o : Int) := ⟨T.size - A.size, by omega⟩
    have ho2 : o ≤ T.size := by omega
    have key1 : standsB T A o = ((T.extract o T.size).toList == A.toList) := by
      unfold standsB
      rw [show o + A.size = T.size by omega]
      simp
    have eo : o = T.size - A.size := by omega
    have KEY1 := hid (And.intro key1 eo)
    clear key1 eo
    cases heq : ((T.extract 0 A.size).toList == A.toList) with
    | true =>
      have HH : Hid ((0 : Int) = if standsB T A 0 = true then 0 else -1) := hid (by rw [KEY0.out, heq]; simp [hle])
      go_wp2_with fail
      refine (quoted_any A (by omega) _).mono ?_
      rintro e w12 ⟨rfl, k12⟩
      have n12 := n11.keep k12 (by simp)
      rw [HQ.out]
      go_wp2_with fail
      rw [HE1.out]
      refine (found_head n12 hA' (by omega) HH.out).mono ?_
      rintro e w13 ⟨rfl, k13⟩
      have n13 := n12.keep k13 (by simp)
      have K13 := K11.trans (k12.trans k13)
      clear k12 k13 n12 n11 K11
      cases heq2 : ((T.extract o T.size).toList == A.toList) with
      | true =>
        have HU : Hid ((o : Int) = if A.size ≤ T.size ∧ standsB T A (T.size - A.size) = true then ((T.size - A.size : Nat) : Int) else -1) := hid (by rw [← KEY1.out.2, KEY1.out.1, heq2]; simp [hle])
        go_wp2_with fail
        refine (quoted_any A (by omega) _).mono ?_
        rintro e w14 ⟨rfl, k14⟩
        have n14 := n13.keep k14 (by simp)
        rw [HQ.out]
        go_wp2_with fail
        rw [HE2.out]
        refine (found_tail n14 hA' (by omega) HU.out).mono ?_
        rintro e w15 ⟨rfl, k15⟩
        have n15 := n14.keep k15 (by simp)
        have K15 := K13.trans (k14.trans k15)
        clear k14 k15 n14 n13 K13
        go_wp2_with fail
        refine (found_bplus n15).mono ?_
        rintro e w16 ⟨rfl, k16⟩
        go_wp2_with fail
        go_ret
        exact ⟨rfl, K15.trans k16⟩
      | false =>
        have HU : Hid ((-1 : Int) = if A.size ≤ T.size ∧ standsB T A (T.size - A.size) = true then ((T.size - A.size : Nat) : Int) else -1) := hid (by rw [← KEY1.out.2, KEY1.out.1, heq2]; simp [hle])
        go_wp2_with fail
        refine (quoted_any A (by omega) _).mono ?_
        rintro e w14 ⟨rfl, k14⟩
        have n14 := n13.keep k14 (by simp)
        rw [HQ.out]
        go_wp2_with fail
        rw [HE2.out]
        refine (found_tail n14 hA' (by omega) HU.out).mono ?_
        rintro e w15 ⟨rfl, k15⟩
        have n15 := n14.keep k15 (by simp)
        have K15 := K13.trans (k14.trans k15)
        clear k14 k15 n14 n13 K13
        go_wp2_with fail
        refine (found_bplus n15).mono ?_
        rintro e w16 ⟨rfl, k16⟩
        go_wp2_with fail
        go_ret
        exact ⟨rfl, K15.trans k16⟩
    | false =>
      have HH : Hid ((-1 : Int) = if standsB T A 0 = true then 0 else -1) := hid (by rw [KEY0.out, heq]; simp [hle])
      go_wp2_with fail
      refine (quoted_any A (by omega) _).mono ?_
      rintro e w12 ⟨rfl, k12⟩
      have n12 := n11.keep k12 (by simp)
      rw [HQ.out]
      go_wp2_with fail
      rw [HE1.out]
      refine (found_head n12 hA' (by omega) HH.out).mono ?_
      rintro e w13 ⟨rfl, k13⟩
      have n13 := n12.keep k13 (by simp)
      have K13 := K11.trans (k12.trans k13)
      clear k12 k13 n12 n11 K11
      cases heq2 : ((T.extract o T.size).toList == A.toList) with
      | true =>
        have HU : Hid ((o : Int) = if A.size ≤ T.size ∧ standsB T A (T.size - A.size) = true then ((T.size - A.size : Nat) : Int) else -1) := hid (by rw [← KEY1.out.2, KEY1.out.1, heq2]; simp [hle])
        go_wp2_with fail
        refine (quoted_any A (by omega) _).mono ?_
        rintro e w14 ⟨rfl, k14⟩
        have n14 := n13.keep k14 (by simp)
        rw [HQ.out]
        go_wp2_with fail
        rw [HE2.out]
        refine (found_tail n14 hA' (by omega) HU.out).mono ?_
        rintro e w15 ⟨rfl, k15⟩
        have n15 := n14.keep k15 (by simp)
        have K15 := K13.trans (k14.trans k15)
        clear k14 k15 n14 n13 K13
        go_wp2_with fail
        refine (found_bplus n15).mono ?_
        rintro e w16 ⟨rfl, k16⟩
        go_wp2_with fail
        go_ret
        exact ⟨rfl, K15.trans k16⟩
      | false =>
        have HU : Hid ((-1 : Int) = if A.size ≤ T.size ∧ standsB T A (T.size - A.size) = true then ((T.size - A.size : Nat) : Int) else -1) := hid (by rw [← KEY1.out.2, KEY1.out.1, heq2]; simp [hle])
        go_wp2_with fail
        refine (quoted_any A (by omega) _).mono ?_
        rintro e w14 ⟨rfl, k14⟩
        have n14 := n13.keep k14 (by simp)
        rw [HQ.out]
        go_wp2_with fail
        rw [HE2.out]
        refine (found_tail n14 hA' (by omega) HU.out).mono ?_
        rintro e w15 ⟨rfl, k15⟩
        have n15 := n14.keep k15 (by simp)
        have K15 := K13.trans (k14.trans k15)
        clear k14 k15 n14 n13 K13
        go_wp2_with fail
        refine (found_bplus n15).mono ?_
        rintro e w16 ⟨rfl, k16⟩
        go_wp2_with fail
        go_ret
        exact ⟨rfl, K15.trans k16⟩
  · have HH : Hid ((-1 : Int) = if standsB T A 0 = true then 0 else -1) := hid (by rw [KEY0.out]; simp [hle])
    go_wp2_with fail
    refine (quoted_any A (by omega) _).mono ?_
    rintro e w12 ⟨rfl, k12⟩
    have n12 := n11.keep k12 (by simp)
    rw [HQ.out]
    go_wp2_with fail
    rw [HE1.out]
    refine (found_head n12 hA' (by omega) HH.out).mono ?_
    rintro e w13 ⟨rfl, k13⟩
    have n13 := n12.keep k13 (by simp)
    have K13 := K11.trans (k12.trans k13)
    clear k12 k13 n12 n11 K11
    have HU : Hid ((-1 : Int) = if A.size ≤ T.size ∧ standsB T A (T.size - A.size) = true then ((T.size - A.size : Nat) : Int) else -1) := hid (by simp [hle])
    go_wp2_with fail
    refine (quoted_any A (by omega) _).mono ?_
    rintro e w14 ⟨rfl, k14⟩
    have n14 := n13.keep k14 (by simp)
    rw [HQ.out]
    go_wp2_with fail
    rw [HE2.out]
    refine (found_tail n14 hA' (by omega) HU.out).mono ?_
    rintro e w15 ⟨rfl, k15⟩
    have n15 := n14.keep k15 (by simp)
    have K15 := K13.trans (k14.trans k15)
    clear k14 k15 n14 n13 K13
    go_wp2_with fail
    refine (found_bplus n15).mono ?_
    rintro e w16 ⟨rfl, k16⟩
    go_wp2_with fail
    go_ret
    exact ⟨rfl, K15.trans k16⟩
end Go.Proofs.YtanpiomfnbiilaaDoor

/- The law on texts that are found as they stand: whatever the input is, it returns true, and the table of names alone is asked of the start. -/
namespace Go.Proofs.YtanpiomfnbiilaaDoor
open Go.ChangeShapes Go.WideShapes Go.ChangeAt Go.RowKit Go.ChangeMaps

set_option maxRecDepth 100000 in
theorem literal_lifted (os : Os) (started : os.Started) (H : Type) (enc : TypeId × Value → H) :
    ReturnsInHanded {} Tryd.checked os 3 .any (fun w args => (Rows.literalSpec.pre enc Tryd.prog Tryd.f3 Rows.literalRow.domain false w args ∧ laidMetH Tryd.prog laidT w) ∧ sizedMet enc Tryd.prog Tryd.f3 (OpenSpec.ofChange Rows.literalSpec) false w args)
      (Rows.literalSpec.post enc Tryd.prog Tryd.f3 false true false false) := by
  refine returnsInHanded_of_change_and (C := Tryd.checked) (X := fun w _ => laidMetH Tryd.prog laidT w) (fun _ _ _ hh h => h.of_heap hh) own0 started (by kernel_rfl) Tryd.func3
    (ChangeSpec.witness_shaped (enc := enc) (C := Tryd.checked) (os := os) (X := fun w _ => laidMetH Tryd.prog laidT w) false (World.laidAll Tryd.prog os laidT) #[.string ⟨#[]⟩, .int .i64 0, .int .i64 0, .string ⟨#[]⟩] 8 (World.laidAll_os _ _ _)
      (World.shaped_of_ZipB (by kernel_rfl) (by kernel_rfl)) (by kernel_rfl) (by kernel_rfl) (by kernel_rfl)
      (by rw [MakeChecks.laidMetH_plain _ _ _ (by kernel_rfl)]; exact laidMet_laidAll _ (by kernel_rfl) (by kernel_rfl))) ?_
  intro W base args ds gs before hval0 hW _ _ hL _
  have hval : ∀ (j : Nat) t v, (Tryd.f3).params[j]? = some t → args[j]? = some v → Value.okWide Tryd.prog W .any base t v := hval0
  have us : Tryd.prog.underlying 9 = some .string := by kernel_rfl
  have hW' := hW
  obtain ⟨p, q, hA0, hV, rfl, _, _⟩ := hW
  have hA : DataW.TrodAll enc Tryd.prog W 0 (fun _ => true) true (Tryd.f3).params.toList args.toList ds p := hA0
  rw [Tryd.params3] at hA hval
  obtain ⟨v0, v1, v2, v3, d0, d1, d2, d3, p0, p1, p2, p3, rfl, rfl, rfl, h0, h1, h2, h3⟩ := trodAll_four hA
  obtain ⟨rfl, rfl⟩ := trodVars_none hV
  obtain ⟨s0, rfl, rfl, rfl, w0⟩ := open_string us (hval 0 9 v0 rfl rfl) h0
  obtain ⟨a1, rfl, rfl, rfl, w1⟩ := open_int Tryd.underlying3 (hval 1 3 v1 rfl rfl) h1
  obtain ⟨a2, rfl, rfl, rfl, w2⟩ := open_int Tryd.underlying3 (hval 2 3 v2 rfl rfl) h2
  obtain ⟨s3, rfl, rfl, rfl, w3⟩ := open_string us (hval 3 9 v3 rfl rfl) h3
  clear hA0 hval0
  simp only [List.append_nil] at hW'
  have b1 := wf_i64 w1
  have b2 := wf_i64 w2
  refine (literal_any s0 s3 a1 a2 b1.1 b1.2 b2.1 b2.2 W (nm_of hL)).mono fun e W' ⟨he, hk⟩ => ?_
  subst he
  refine ⟨_, rfl, ⟨_, _, [], [], [], [], hW', trodAll_mk1 (shut_bool Tryd.underlying4 _), trodAll_mk4 (shut_string us w0) (shut_int Tryd.underlying3 w1) (shut_int Tryd.underlying3 w2) (shut_string us w3), rfl, hk.below.frame _, fun h => by cases h⟩⟩

theorem literal_holds : Rows.LiteralSaid :=
  OpenClaim.holds_of_wide 3 Tryd.f3 rfl rfl rfl rfl rfl rfl rfl ⟨rfl, rfl, rfl, rfl, rfl⟩ rfl rfl rfl rfl rfl (by kernel_rfl) Tryd.func3 (by kernel_rfl)
    (of_decide_eq_true (by kernel_rfl)) (by unfold Func.isWrapper; first | (rw [if_pos (by decide +kernel)]; kernel_rfl) | (rw [if_neg (by decide +kernel)]; exact ⟨rfl, rfl⟩))
    (fun os started H enc _ => literal_lifted os started H enc)
end Go.Proofs.YtanpiomfnbiilaaDoor
