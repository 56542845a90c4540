/- The places, one behind the other, up to the first one that is handed on. -/
import Derived.Test.YtanpiomfnbiilaaDoorGK
import Derived.RangeFuncNested
import Derived.RangeFuncBound
import Derived.RangeFuncCalls
import Derived.RangeFuncLeaves
import Derived.Shelf.Abstract
import Derived.Shelf.RegionOpen
import Derived.OwnWalkIn
import Derived.TacticsInMore
import Derived.LoopNIn
import Derived.LoopIn
namespace Go.Proofs.YtanpiomfnbiilaaDoor
open Go.RowKit Go.Shelf
attribute [local go_sem] Oper.semAt_some

set_option maxHeartbeats 400000 in
theorem places_any (p : Nat) (text : ByteArray) (w : World) :
    Calls Tryd.prog 20 #[.pointer (some ⟨p, 0, none⟩), .string text] w fun e w' => e = .returned (.func (.func 25) #[] #[.pointer (some ⟨w.heap.size + 1, 0, none⟩), .pointer (some ⟨w.heap.size, 0, none⟩)]) ∧ w' = (w.alloc (.cells #[.pointer (some ⟨p, 0, none⟩)] 40)).alloc (.cells #[.string text] 9) := by
  have hmf : ∀ (fn : Fn) (first cap : Array Value) (w : World), (Instr.makeFunc fn first cap).run Tryd.prog w = .ok (.func fn first cap) w := fun _ _ _ _ => rfl
  go_enter Tryd.func20, Tryd.ntmps20
  go_wp2
  go_ret
  exact ⟨by simp [go_sem], rfl⟩

theorem slice_best (V : World) (f m : Nat) (hm : m ≤ 20) : (Instr.sliceAt 79 (.pointer (some ⟨f, 8, none⟩)) none (some (.int .i64 (m : Int))) none).run Tryd.prog V = .ok (.slice (some ⟨f, 8, none⟩) m 20) V := by
  have e20 : Tryd.prog.arrayLen 79 = 20 := by kernel_rfl
  have es : (sizeOf (Tryd.prog.elem 79)).run Tryd.prog V = .ok 1 V := by kernel_rfl
  rw [run_sliceAt_array_h V 79 ⟨f, 8, none⟩ (by kernel_rfl) .i64 (m : Int) (by omega) (by rw [e20]; omega), es, e20]
  simp [Result.andThen, slicedAt, Addr.add]

set_option maxRecDepth 100000 in
set_option maxHeartbeats 4000000 in
/-- The iterator, where the first place that is handed on ends it. -/
theorem places1_once {w : World} {p g c n D bg G bt bp l : Nat} {text : ByteArray} {cd : Nat → In} {X : World → Prop} (hcd : Cd w p g c n D cd) (p1 : w.cell? ⟨p, 1, none⟩ = some (.int .i64 bg)) (p2 : w.cell? ⟨p, 2, none⟩ = some (.int .i64 G)) (hbg : bg < n) (hn : n * (D + 1) ≤ 9000) (hG : G ≤ 9) (htx : text.size ≤ 5000)
    (hbt : w.cell? ⟨bt, 0, none⟩ = some (.string text)) (hbp : w.cell? ⟨bp, 0, none⟩ = some (.pointer (some ⟨p, 0, none⟩)))
    (hY : ∀ (W1 : World) (f m : Nat) (s' : Mc), Kp [] w W1 → Runs cd n D text bg (text.size + 1) 0 [] mc0 s' → s'.fd = true → W1.rangeAt f 8 (nf s'.best) → w.heap.size ≤ f →
      YieldAt Fence.wide m Tryd.prog l #[.slice (some ⟨f, 8, none⟩) (2 + 2 * G) 20] W1 fun e W' => e = .returned (.bool false) ∧ X W') :
    Calls Tryd.prog 25 #[.func (.yield l) #[] #[], .pointer (some ⟨bt, 0, none⟩), .pointer (some ⟨bp, 0, none⟩)] w fun e w' => (∃ v, e = .returned v) ∧
      ((Kp [] w w' ∧ ∃ s', Runs cd n D text bg (text.size + 1) 0 [] mc0 s' ∧ s'.fd = false) ∨ X w') := by
  have HCD := hid hcd
  have P1 := hid p1
  have P2 := hid p2
  have HY := hid hY
  have p0 := hcd.p0
  have p3 := hcd.p3
  obtain ⟨Q, hQ⟩ : ∃ Q, Q = n * (D + 1) := ⟨_, rfl⟩
  rw [← hQ] at hn
  obtain ⟨D1, hD1⟩ : ∃ D1 : Nat, (D : Int) + 1 = D1 := ⟨D + 1, by omega⟩
  obtain ⟨T1, hT1⟩ : ∃ T1 : Nat, (text.size : Int) + 1 = T1 := ⟨text.size + 1, by omega⟩
  obtain ⟨A1, hA1⟩ : ∃ A1 : Nat, (T1 : Int) * (n : Int) = A1 := ⟨T1 * n, by push_cast; rfl⟩
  obtain ⟨S1, hS1⟩ : ∃ S1 : Nat, (A1 : Int) * (D1 : Int) = S1 := ⟨A1 * D1, by push_cast; rfl⟩
  have eS1 : S1 = (text.size + 1) * Q := by
    have e1 : D1 = D + 1 := by omega
    have e2 : T1 = text.size + 1 := by omega
    have e3 : A1 = T1 * n := by exact_mod_cast hA1.symm
    have e4 : S1 = A1 * D1 := by exact_mod_cast hS1.symm
    rw [e4, e3, e2, e1, hQ, Nat.mul_assoc]
  have hS1b : S1 ≤ 46000000 := by
    rw [eS1]
    exact Nat.le_trans (Nat.mul_le_mul (show text.size + 1 ≤ 5001 by omega) hn) (by decide)
  have hDn : D1 ≤ 9000 := by
    have h1 := Nat.mul_le_mul_right (D + 1) (show 1 ≤ n by omega)
    rw [← hQ] at h1
    omega
  have hA1b : A1 ≤ S1 := by
    have e4 : S1 = A1 * D1 := by exact_mod_cast hS1.symm
    rw [e4]
    exact Nat.le_mul_of_pos_right _ (by omega)
  have w1 := wrap_i64_nat D1 (by omega)
  have w2 := wrap_i64_nat T1 (by omega)
  have w3 := wrap_i64_nat A1 (by omega)
  have w4 := wrap_i64_nat S1 (by omega)
  have HQ := hid (And.intro hQ eS1)
  have HE := hid (And.intro hD1 (And.intro hT1 (And.intro hA1 hS1)))
  clear hcd p1 p2 hY hQ eS1
  go_enter Tryd.func25, Tryd.ntmps25
  go_wp2_with fail
  go_quiet (fail)
  have kq := Kp.drewN [] w nq
  have qt : (w.drewN nq).cell? ⟨bt, 0, none⟩ = some (.string text) := hbt
  have qp : (w.drewN nq).cell? ⟨bp, 0, none⟩ = some (.pointer (some ⟨p, 0, none⟩)) := hbp
  have hz : Hid ((w.drewN nq).heap.size = w.heap.size) := hid (by simp)
  generalize w.drewN nq = U at *
  clear hbt hbp p0 p3 w1 w2 w3 w4 hD1 hT1 hA1 hS1
  obtain ⟨N, hN⟩ : ∃ N : Nat, N = S1 / 64 + 1 := ⟨_, rfl⟩
  have hN2 : Hid ((text.size + 1) * Q ≤ 64 * N) := hid (by rw [← HQ.out.2]; omega)
  have hNb : N ≤ 1000000 := by omega
  obtain ⟨M1, hM1⟩ : ∃ M1 : Nat, M1 = S1 / 64 := ⟨_, rfl⟩
  have hdiv : (S1 : Int) / 64 = (M1 : Int) := by omega
  have hsum : (M1 : Int) + 1 = (N : Int) := by omega
  have wM := wrap_i64_nat M1 (by omega)
  clear hM1
  have wN := wrap_i64_nat N (by omega)
  have hmk := fun w => make_words w N hNb
  have HN := hid hN
  clear hN
  go_wp2_with fail
  rename_i K1 hK1
  have HK1 := hid hK1
  clear hK1
  refine wp_region_noPanic ?_
  refine wp_region_T (fun w' : World => w'.cell? ⟨bp, 0, none⟩ = some (.pointer (some ⟨p, 0, none⟩)) ∧ w'.cell? ⟨bt, 0, none⟩ = some (.string text)) 8 (by kernel_rfl) ?_
  have hS : (fun w' : World => w'.cell? ⟨bp, 0, none⟩ = some (.pointer (some ⟨p, 0, none⟩)) ∧ w'.cell? ⟨bt, 0, none⟩ = some (.string text)) U.drew := ⟨qp, qt⟩
  refine wpAnyT_take (i := 0) (v := ?v0p) rfl (by kernel_rfl) (by kernel_rfl) (by kernel_rfl) (by kernel_rfl) (fun _ _ _ h => h) (Or.inl ⟨by rfl, ?y0p⟩) hS ?_
  case y0p => (intro w hSw; (try dsimp only at hSw); go_simp; (try with_reducible rfl))
  simp only [List.getElem_toArray, List.getElem_cons_zero, Act.put, List.setIfInBounds_toArray, List.set_cons_zero, List.set_cons_succ]
  refine wpAnyT_take (i := 1) (v := ?v1p) rfl (by kernel_rfl) (by kernel_rfl) (by kernel_rfl) (by kernel_rfl) (fun _ _ _ h => h) (Or.inl ⟨by rfl, ?y1p⟩) hS ?_
  case y1p => (intro w hSw; (try dsimp only at hSw); go_simp; (try with_reducible rfl))
  simp only [List.getElem_toArray, List.getElem_cons_succ, List.getElem_cons_zero, Act.put, List.setIfInBounds_toArray, List.set_cons_zero, List.set_cons_succ]
  refine wpAnyT_take (i := 2) (v := ?v2p) rfl (by kernel_rfl) (by kernel_rfl) (by kernel_rfl) (by kernel_rfl) (fun _ _ _ h => h) (Or.inl ⟨by rfl, ?y2p⟩) hS ?_
  case y2p => (intro w hSw; (try dsimp only at hSw); go_simp; (try with_reducible rfl))
  simp only [List.getElem_toArray, List.getElem_cons_succ, List.getElem_cons_zero, Act.put, List.setIfInBounds_toArray, List.set_cons_zero, List.set_cons_succ]
  refine wpAnyT_take (i := 3) (v := ?v3p) rfl (by kernel_rfl) (by kernel_rfl) (by kernel_rfl) (by kernel_rfl) (fun _ _ _ h => h) (Or.inl ⟨by rfl, ?y3p⟩) hS ?_
  case y3p => (intro w hSw; (try dsimp only at hSw); go_simp; (try with_reducible rfl))
  simp only [List.getElem_toArray, List.getElem_cons_succ, List.getElem_cons_zero, Act.put, List.setIfInBounds_toArray, List.set_cons_zero, List.set_cons_succ]
  refine wpAnyT_take (i := 4) (v := ?v4p) rfl (by kernel_rfl) (by kernel_rfl) (by kernel_rfl) (by kernel_rfl) (fun _ _ _ h => h) (Or.inl ⟨by rfl, ?y4p⟩) hS ?_
  case y4p => (intro w hSw; (try dsimp only at hSw); go_simp; (try with_reducible rfl))
  simp only [List.getElem_toArray, List.getElem_cons_succ, List.getElem_cons_zero, Act.put, List.setIfInBounds_toArray, List.set_cons_zero, List.set_cons_succ]
  refine wpAnyT_two (i := 5) (j := 7) (by kernel_rfl) rfl rfl (fun K hK => ?_) (fun K hK => ?_)
  · go_simp
    have hS1 : (fun w' : World => w'.cell? ⟨bp, 0, none⟩ = some (.pointer (some ⟨p, 0, none⟩)) ∧ w'.cell? ⟨bt, 0, none⟩ = some (.string text)) ((U.alloc (.cells (zs N) 70)).drew) := ⟨cell_ad qp _, cell_ad qt _⟩
    refine hK.out _ _ (.inr hS1) ?_
    clear hK K
    refine wpAnyT_take (i := 6) (v := ?v6a) rfl (by kernel_rfl) (by kernel_rfl) (by kernel_rfl) (by kernel_rfl) (fun _ _ _ h => h) (Or.inl ⟨by rfl, ?y6a⟩) hS1 ?_
    case y6a => (intro w hSw; (try dsimp only at hSw); go_simp; (try with_reducible rfl))
    simp only [List.getElem_toArray, List.getElem_cons_succ, List.getElem_cons_zero, Act.put, List.setIfInBounds_toArray, List.set_cons_zero, List.set_cons_succ]
    refine wpAnyT_one (i := 7) (by kernel_rfl) rfl (fun K hK => ?_)
    go_simp
    refine hK.out _ _ (.inr ⟨cell_ad (w := U.alloc (.cells (zs N) 70)) hS1.1 _, cell_ad (w := U.alloc (.cells (zs N) 70)) hS1.2 _⟩) ?_
    clear hK K
    refine wpAnyT_one (i := 8) (by kernel_rfl) rfl (fun K hK => ?_)
    rw [if_pos (by rfl)]
    refine wp_store_mid 81 (.tmp 5) (.tmp 28) rfl (U.heap.size + 1) 0 (fin28 p text U.heap.size N).toArray rfl rfl ?hth Tryd.szFin (all_oneCell_toArray (fin28_one p text U.heap.size N)) ?_
    case hth => (have := th28 (U.alloc (.cells (zs N) 70)); simpa using this)
    refine hK.out _ _ (.inl rfl) ?_
    clear hK K
    refine wpAnyT_done (by kernel_rfl) ?_ _
    refine NoPanic.normal ?_
    simp only [List.getElem_toArray, List.getElem_cons_succ, List.getElem_cons_zero, Act.put]
    have fs : Fg U ((((U.alloc (.cells (zs N) 70)).alloc (.cells z28 81)).drew).setCells (U.heap.size + 1) 0 (fin28 p text U.heap.size N).toArray.toList) (U.heap.size + 1) p (U.heap.size) N 0 text [] (.slice none 0 0) (.slice none 0 0) (.slice none 0 0) mc0 := by
      refine fg0_of ((Kp.alloc _ _ _).trans ((Kp.alloc _ _ _).trans (Kp.drew _ _))) (by omega) (by omega) (by omega) ?_ ?_ ?_ ?_
      · have := th28 (U.alloc (.cells (zs N) 70)); simpa using this
      · intro i; simp
      · simp; omega
      · exact fun i hi => ⟨by have := range_new U (zs N) 70 i _ (zs_get N i hi); rw [Nat.zero_add] at this; exact cell_ad this _, (free_ad (by have := range_new U (zs N) 70 i _ (zs_get N i hi); rwa [Nat.zero_add] at this) (by simp) _)⟩
    generalize (((U.alloc (.cells (zs N) 70)).alloc (.cells z28 81)).drew).setCells (U.heap.size + 1) 0 (fin28 p text U.heap.size N).toArray.toList = W at *
    have hflo : w.heap.size ≤ U.heap.size + 1 := by have := hz.out; omega
    clear hS hS1
    generalize U.heap.size + 1 = f at *
    generalize U.heap.size = sb at *
    have FS := hid fs
    clear fs hmk wN wM hsum hdiv
    refine HK1.out _ _ ?_
    clear HK1 K1
    refine (wpIn_wide (n := 3)).1 ?_
    gi_wp2
    refine wpIn_loop_rounds 1 ?_
    rw [roundsIn_succ]
    gi_wp2_with fail
    refine ⟨trivial, ?_⟩
    refine (callsIn_wide.2 (search_any (fr := 0) FS.out rfl rfl (HCD.out.keep kq) ((kq.cell (p := ⟨p, 1, none⟩) HCD.out.hp (by simp)).trans P1.out) hbg (by rw [← HQ.out.1]; exact hn) (by rw [← HQ.out.1]; exact hN2.out) hNb htx (Nat.zero_le _))).mono ?_
    rintro e W1 ⟨s', pl', u3, u4, u5, rfl, fg, _, _, runs⟩
    have FG := hid fg
    have RU := hid runs
    have kp1 := hid (kq.trans fg.kp)
    have b0 := (fg.kp.cell (p := ⟨bp, 0, none⟩) (World.block_lt_of_cell? _ _ qp) (by simp)).trans qp
    have b2 := ((kq.trans fg.kp).cell (p := ⟨p, 2, none⟩) HCD.out.hp (by simp)).trans P2.out
    clear runs fg FS
    obtain ⟨fdv, hfdv⟩ : ∃ b, s'.fd = b := ⟨_, rfl⟩
    rw [hfdv]
    cases fdv with
    | false =>
      gi_wp2
      go_end0
      exact ⟨⟨_, rfl⟩, .inl ⟨kp1.out, s', RU.out, hfdv⟩⟩
    | true =>
      obtain ⟨G2, hG2⟩ : ∃ G2 : Nat, (2 : Int) * (G : Int) = (G2 : Int) := ⟨2 * G, by push_cast; rfl⟩
      obtain ⟨m, hm⟩ : ∃ m : Nat, (2 : Int) + (G2 : Int) = (m : Int) := ⟨2 + G2, by push_cast; rfl⟩
      have wg := wrap_i64_nat G2 (by omega)
      have wm := wrap_i64_nat m (by omega)
      have hm20 : m ≤ 20 := by omega
      have hsl : ∀ V : World, (Instr.sliceAt 79 (.pointer (some ⟨f, 8, none⟩)) none (some (.int .i64 (m : Int))) none).run Tryd.prog V = .ok (.slice (some ⟨f, 8, none⟩) m 20) V := fun V => slice_best V f m hm20
      obtain ⟨fn, tmps, assign, body, hy, hR⟩ := HY.out W1 f 2 s' kp1.out RU.out hfdv FG.out.best hflo
      rw [show 2 + 2 * G = m by omega] at hy
      gi_wp2
      refine hR.mono ?_
      rintro e W2 ⟨rfl, hX⟩
      gi_wp2
      refine bodyPost_ret (results_none rfl _ _ _) rfl ?_
      exact ⟨⟨_, rfl⟩, .inr hX⟩
  · go_simp
    have hS1 : (fun w' : World => w'.cell? ⟨bp, 0, none⟩ = some (.pointer (some ⟨p, 0, none⟩)) ∧ w'.cell? ⟨bt, 0, none⟩ = some (.string text)) ((U.alloc (.cells z28 81)).drew) := ⟨cell_ad qp _, cell_ad qt _⟩
    refine hK.out _ _ (.inr hS1) ?_
    clear hK K
    refine wpAnyT_one (i := 5) (by kernel_rfl) rfl (fun K hK => ?_)
    go_simp
    have hS2 : (fun w' : World => w'.cell? ⟨bp, 0, none⟩ = some (.pointer (some ⟨p, 0, none⟩)) ∧ w'.cell? ⟨bt, 0, none⟩ = some (.string text)) (((U.alloc (.cells z28 81)).alloc (.cells (zs N) 70)).drew) := ⟨cell_ad (w := U.alloc (.cells z28 81)) hS1.1 _, cell_ad (w := U.alloc (.cells z28 81)) hS1.2 _⟩
    refine hK.out _ _ (.inr hS2) ?_
    clear hK K
    refine wpAnyT_take (i := 6) (v := ?v6b) rfl (by kernel_rfl) (by kernel_rfl) (by kernel_rfl) (by kernel_rfl) (fun _ _ _ h => h) (Or.inl ⟨by rfl, ?y6b⟩) hS2 ?_
    case y6b => (intro w hSw; (try dsimp only at hSw); go_simp; (try with_reducible rfl))
    simp only [List.getElem_toArray, List.getElem_cons_succ, List.getElem_cons_zero, Act.put, List.setIfInBounds_toArray, List.set_cons_zero, List.set_cons_succ]
    refine wpAnyT_one (i := 8) (by kernel_rfl) rfl (fun K hK => ?_)
    rw [if_pos (by rfl)]
    refine wp_store_mid 81 (.tmp 5) (.tmp 28) rfl U.heap.size 0 (fin28 p text (U.heap.size + 1) N).toArray rfl rfl ?hth Tryd.szFin (all_oneCell_toArray (fin28_one p text (U.heap.size + 1) N)) ?_
    case hth => exact th28_old (th28 U) _
    refine hK.out _ _ (.inl rfl) ?_
    clear hK K
    refine wpAnyT_done (by kernel_rfl) ?_ _
    refine NoPanic.normal ?_
    simp only [List.getElem_toArray, List.getElem_cons_succ, List.getElem_cons_zero, Act.put]
    have hsB : (U.alloc (.cells z28 81)).heap.size = U.heap.size + 1 := by simp
    have fs : Fg U ((((U.alloc (.cells z28 81)).alloc (.cells (zs N) 70)).drew).setCells U.heap.size 0 (fin28 p text (U.heap.size + 1) N).toArray.toList) (U.heap.size) p (U.heap.size + 1) N 0 text [] (.slice none 0 0) (.slice none 0 0) (.slice none 0 0) mc0 := by
      refine fg0_of ((Kp.alloc _ _ _).trans ((Kp.alloc _ _ _).trans (Kp.drew _ _))) (by omega) (by omega) (by omega) ?_ ?_ ?_ ?_
      · exact th28_old (th28 U) _
      · intro i; simp
      · simp
      · exact fun i hi => ⟨by have := range_new (U.alloc (.cells z28 81)) (zs N) 70 i _ (zs_get N i hi); rw [Nat.zero_add, hsB] at this; exact this, by show ((U.alloc (.cells z28 81)).alloc (.cells (zs N) 70)).frozen? _ = false; have := fun j => (show ((U.alloc (.cells z28 81)).alloc (.cells (zs N) 70)).frozen? ⟨(U.alloc (.cells z28 81)).heap.size, j, none⟩ = false by simp); rw [hsB] at this; exact this i⟩
    generalize (((U.alloc (.cells z28 81)).alloc (.cells (zs N) 70)).drew).setCells U.heap.size 0 (fin28 p text (U.heap.size + 1) N).toArray.toList = W at *
    have hflo : w.heap.size ≤ U.heap.size := by have := hz.out; omega
    clear hS hS1 hS2 hsB
    generalize U.heap.size + 1 = sb at *
    generalize U.heap.size = f at *
    have FS := hid fs
    clear fs hmk wN wM hsum hdiv
    refine HK1.out _ _ ?_
    clear HK1 K1
    refine (wpIn_wide (n := 3)).1 ?_
    gi_wp2
    refine wpIn_loop_rounds 1 ?_
    rw [roundsIn_succ]
    gi_wp2_with fail
    refine ⟨trivial, ?_⟩
    refine (callsIn_wide.2 (search_any (fr := 0) FS.out rfl rfl (HCD.out.keep kq) ((kq.cell (p := ⟨p, 1, none⟩) HCD.out.hp (by simp)).trans P1.out) hbg (by rw [← HQ.out.1]; exact hn) (by rw [← HQ.out.1]; exact hN2.out) hNb htx (Nat.zero_le _))).mono ?_
    rintro e W1 ⟨s', pl', u3, u4, u5, rfl, fg, _, _, runs⟩
    have FG := hid fg
    have RU := hid runs
    have kp1 := hid (kq.trans fg.kp)
    have b0 := (fg.kp.cell (p := ⟨bp, 0, none⟩) (World.block_lt_of_cell? _ _ qp) (by simp)).trans qp
    have b2 := ((kq.trans fg.kp).cell (p := ⟨p, 2, none⟩) HCD.out.hp (by simp)).trans P2.out
    clear runs fg FS
    obtain ⟨fdv, hfdv⟩ : ∃ b, s'.fd = b := ⟨_, rfl⟩
    rw [hfdv]
    cases fdv with
    | false =>
      gi_wp2
      go_end0
      exact ⟨⟨_, rfl⟩, .inl ⟨kp1.out, s', RU.out, hfdv⟩⟩
    | true =>
      obtain ⟨G2, hG2⟩ : ∃ G2 : Nat, (2 : Int) * (G : Int) = (G2 : Int) := ⟨2 * G, by push_cast; rfl⟩
      obtain ⟨m, hm⟩ : ∃ m : Nat, (2 : Int) + (G2 : Int) = (m : Int) := ⟨2 + G2, by push_cast; rfl⟩
      have wg := wrap_i64_nat G2 (by omega)
      have wm := wrap_i64_nat m (by omega)
      have hm20 : m ≤ 20 := by omega
      have hsl : ∀ V : World, (Instr.sliceAt 79 (.pointer (some ⟨f, 8, none⟩)) none (some (.int .i64 (m : Int))) none).run Tryd.prog V = .ok (.slice (some ⟨f, 8, none⟩) m 20) V := fun V => slice_best V f m hm20
      obtain ⟨fn, tmps, assign, body, hy, hR⟩ := HY.out W1 f 2 s' kp1.out RU.out hfdv FG.out.best hflo
      rw [show 2 + 2 * G = m by omega] at hy
      gi_wp2
      refine hR.mono ?_
      rintro e W2 ⟨rfl, hX⟩
      gi_wp2
      refine bodyPost_ret (results_none rfl _ _ _) rfl ?_
      exact ⟨⟨_, rfl⟩, .inr hX⟩
end Go.Proofs.YtanpiomfnbiilaaDoor
