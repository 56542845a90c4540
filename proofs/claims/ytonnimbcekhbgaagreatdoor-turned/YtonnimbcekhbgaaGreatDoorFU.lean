/- The machine: bytes are exchanged. -/
import Derived.Test.YtonnimbcekhbgaaGreatDoorFMToFV
import Derived.Test.YtonnimbcekhbgaaGreatDoorFW
import Derived.Laws.IdiomStrings
import Derived.Deep.RegionWith
namespace Go.Proofs.YtonnimbcekhbgaaGreatDoor
open Go.RowKit

theorem zero256 : Tryz.zeroCells113 = (List.replicate 256 (Value.int .u8 ((0 : Nat) : Int))).toArray := by kernel_rfl

/-- What a byte becomes. -/
def tabN (fr tt : List UInt8) : Nat → Nat → Nat
  | 0, j => j
  | n + 1, j => if j = (fr[n]?.getD 0).toNat then (tt[n]?.getD 0).toNat else tabN fr tt n j
def turnL (fr tt L : List UInt8) : List UInt8 := L.map fun u => (tabN fr tt fr.length u.toNat).toUInt8
theorem tabN_lt (fr tt : List UInt8) : ∀ n j, j < 256 → tabN fr tt n j < 256
  | 0, _, h => h
  | n + 1, j, h => by
    unfold tabN
    split
    · exact UInt8.toNat_lt _
    · exact tabN_lt fr tt n j h

section
variable {w0 w w' : World} {mb sb db lo hi : Nat} {s s' : Mst} {σ : Sst}

set_option maxRecDepth 100000 in
set_option maxHeartbeats 4000000 in
theorem exchange_v {ca co : Nat} {fr tt L : List UInt8} (h : Mac w0 w mb sb db s) (h20 : w.cell? ⟨ca, co + 20, none⟩ = some (.string (ba fr))) (h22 : w.cell? ⟨ca, co + 22, none⟩ = some (.string (ba tt))) (hs : s.space = ba L) (hL : L.length ≤ 100000) (hf : fr.length = tt.length) (hfl : fr.length ≤ 2000) :
    Calls Tryz.prog 43 #[.pointer (some ⟨mb, 0, none⟩), .pointer (some ⟨ca, co, none⟩)] w fun r w' => r = .returned (.tuple #[]) ∧ Goes w0 mb sb db w s w' { s.p with space := ba (turnL fr tt L) } := by
  have HM := hid h
  have c9 := h.b.at_ 9 _ rfl
  rw [hs] at c9
  have C9 := hid c9
  have HF := hid hf
  clear c9 h hf
  go_enter Tryz.func43, Tryz.ntmps43
  go_wp2_with fail
  go_quiet (fail)
  obtain ⟨wa, hwa⟩ : ∃ wa, wa = w.drewN nq := ⟨_, rfl⟩
  have ka : Kp [] w wa := by rw [hwa]; exact Kp.drewN _ _ _
  rw [← hwa]
  clear hwa h20 h22
  have A0 := Arr.of wa (Value.int .u8 ((0 : Nat) : Int)) 113
  have kb := ka.trans (Kp.alloc [] wa (.cells (List.replicate 256 (Value.int .u8 ((0 : Nat) : Int))).toArray 113))
  obtain ⟨t, ht⟩ : ∃ t, t = wa.heap.size := ⟨_, rfl⟩
  have htw : w.heap.size ≤ t := by rw [ht]; exact ka.size
  obtain ⟨wb, hwb⟩ : ∃ wb, wb = wa.alloc (.cells (List.replicate 256 (Value.int .u8 ((0 : Nat) : Int))).toArray 113) := ⟨_, rfl⟩
  go_upto_region 2 with fail
  rw [← ht, ← hwb] at A0
  rw [← hwb] at kb
  rw [zero256, ← ht, ← hwb]
  clear ht hwb ka
  go_wp2_with fail
  go_loopw [24, 7] (fun b _ wr => ∃ k : Nat, k ≤ 256 ∧ b = .int .i64 k ∧ Hid (Arr wr t (fun j => .int .u8 ((if j < k then j else 0 : Nat) : Int))) ∧ Hid (Kp [] w wr)) (fun b _ _ => 256 - (intOf b).toNat)
  case atStart => exact ⟨0, by omega, rfl, hid A0, hid kb⟩
  case round =>
    obtain ⟨k, hk, rfl, HA, HK⟩ := hrel
    by_cases hkn : k < 256
    · obtain ⟨k1, hk1⟩ : ∃ k1 : Nat, (k : Int) + 1 = (k1 : Int) := ⟨k + 1, by omega⟩
      have wk := wrap_i64_nat k1 (by omega)
      have w8 : IntKind.u8.wrap (k : Int) = (k : Int) := by rw [IntKind.wrap_u8]; omega
      have hc := HA.out.at_ k hkn
      have hf8 := HA.out.free k
      go_wp2_with fail
      go_round
      case rel =>
        refine ⟨k1, by omega, rfl, hid ?_, hid (HK.out.past (T := [t]) (Kp.setCell _ _ (by simp)) (fun x hx => by simp at hx; omega))⟩
        refine (HA.out.set (v := .int .u8 (k : Int)) hkn).mono (fun j hj => ?_)
        by_cases e : j = k
        · rw [if_pos e, if_pos (by omega), e]
        · rw [if_neg e]
          by_cases e2 : j < k
          · rw [if_pos e2, if_pos (by omega)]
          · rw [if_neg e2, if_neg (by omega)]
      case measure => simp [intOf]; omega
    · have e : k = 256 := by omega
      subst e
      have A1 : Hid (Arr wr t (fun j => .int .u8 ((tabN fr tt 0 j : Nat) : Int))) := hid (HA.out.mono (fun j hj => by rw [if_pos hj]; rfl))
      have zf := ba_size fr
      have zt := ba_size tt
      clear HA
      go_wp2_with fail
      go_loopw [34, 8] (fun b _ wr => ∃ k : Nat, k ≤ fr.length ∧ b = .int .i64 k ∧ Hid (Arr wr t (fun j => .int .u8 ((tabN fr tt k j : Nat) : Int))) ∧ Hid (Kp [] w wr)) (fun b _ _ => fr.length - (intOf b).toNat)
      case atStart => exact ⟨0, by omega, rfl, A1, HK⟩
      case round =>
        obtain ⟨k, hk, rfl, HA2, HK2⟩ := hrel
        by_cases hkn : k < fr.length
        · obtain ⟨k1, hk1⟩ : ∃ k1 : Nat, (k : Int) + 1 = (k1 : Int) := ⟨k + 1, by omega⟩
          have wk := wrap_i64_nat k1 (by omega)
          have hktt : k < tt.length := by have := HF.out; omega
          have b1 : k < (ba fr).size := by rw [zf]; exact hkn
          have b2 : k < (ba tt).size := by rw [zt]; exact hktt
          obtain ⟨x, hx⟩ : ∃ x : Nat, ((ba fr)[k]'b1).toNat = x := ⟨_, rfl⟩
          obtain ⟨y, hy⟩ : ∃ y : Nat, ((ba tt)[k]'b2).toNat = y := ⟨_, rfl⟩
          have hx256 : x < 256 := by rw [← hx]; exact UInt8.toNat_lt _
          have hxi : (x : Int) < 256 := by omega
          have FX : Hid (x = (fr[k]?.getD 0).toNat) := hid (by rw [← hx, List.getElem?_eq_getElem hkn]; rfl)
          have FY : Hid (y = (tt[k]?.getD 0).toNat) := hid (by rw [← hy, List.getElem?_eq_getElem hktt]; rfl)
          have wd := Kp.drew [] wr
          have HA3 := hid (HA2.out.keep wd (by simp))
          have HK3 := hid (HK2.out.trans wd)
          obtain ⟨w5, hw5⟩ : ∃ w5, w5 = wr.drew := ⟨_, rfl⟩
          rw [← hw5] at HA3 HK3
          have hc := HA3.out.at_ x hx256
          have hf8 := HA3.out.free x
          go_upto_region 10 with fail
          refine wp_region_T (fun _ : World => True) 7 (by kernel_rfl) ?_
          rw [← hw5]
          clear hw5 wd HA2 HK2
          have hS : (fun _ : World => True) w5 := trivial
          refine wpAnyT_take (i := 0) (v := ?v0) rfl (by kernel_rfl) (by kernel_rfl) (by kernel_rfl) (by kernel_rfl) (fun _ _ _ h => h) (Or.inl ⟨by rfl, ?y0⟩) hS ?_
          case y0 => (intro w hSw; (try dsimp only at hSw); go_simp; (try with_reducible rfl))
          simp only [List.getElem_toArray, List.getElem_cons_zero, Act.put, List.setIfInBounds_toArray, List.set_cons_zero, List.set_cons_succ]
          refine wpAnyT_take (i := 1) (v := ?v1) rfl (by kernel_rfl) (by kernel_rfl) (by kernel_rfl) (by kernel_rfl) (fun _ _ _ h => h) (Or.inl ⟨by rfl, ?y1⟩) hS ?_
          case y1 => (intro w hSw; (try dsimp only at hSw); go_simp; (try with_reducible rfl))
          simp only [List.getElem_toArray, List.getElem_cons_succ, List.getElem_cons_zero, Act.put, List.setIfInBounds_toArray, List.set_cons_zero, List.set_cons_succ]
          refine wpAnyT_take (i := 2) (v := ?v2) rfl (by kernel_rfl) (by kernel_rfl) (by kernel_rfl) (by kernel_rfl) (fun _ _ _ h => h) (Or.inl ⟨by rfl, ?y2⟩) hS ?_
          case y2 => (intro w hSw; (try dsimp only at hSw); go_simp; (try with_reducible rfl))
          simp only [List.getElem_toArray, List.getElem_cons_succ, List.getElem_cons_zero, Act.put, List.setIfInBounds_toArray, List.set_cons_zero, List.set_cons_succ]
          refine wpAnyT_take (i := 3) (v := ?v3) rfl (by kernel_rfl) (by kernel_rfl) (by kernel_rfl) (by kernel_rfl) (fun _ _ _ h => h) (Or.inl ⟨by rfl, ?y3⟩) hS ?_
          case y3 => (intro w hSw; (try dsimp only at hSw); go_simp; (try with_reducible rfl))
          simp only [List.getElem_toArray, List.getElem_cons_succ, List.getElem_cons_zero, Act.put, List.setIfInBounds_toArray, List.set_cons_zero, List.set_cons_succ]
          refine wpAnyT_take (i := 4) (v := ?v4) rfl (by kernel_rfl) (by kernel_rfl) (by kernel_rfl) (by kernel_rfl) (fun _ _ _ h => h) (Or.inl ⟨by rfl, ?y4⟩) hS ?_
          case y4 => (intro w hSw; (try dsimp only at hSw); go_simp; (try with_reducible rfl))
          simp only [List.getElem_toArray, List.getElem_cons_succ, List.getElem_cons_zero, Act.put, List.setIfInBounds_toArray, List.set_cons_zero, List.set_cons_succ]
          refine wpAnyT_take (i := 5) (v := ?v5) rfl (by kernel_rfl) (by kernel_rfl) (by kernel_rfl) (by kernel_rfl) (fun _ _ _ h => h) (Or.inl ⟨by rfl, ?y5⟩) hS ?_
          case y5 => (intro w hSw; (try dsimp only at hSw); go_simp; (try with_reducible rfl))
          simp only [List.getElem_toArray, List.getElem_cons_succ, List.getElem_cons_zero, Act.put, List.setIfInBounds_toArray, List.set_cons_zero, List.set_cons_succ]
          refine wpAnyT_take (i := 6) (v := ?v6) rfl (by kernel_rfl) (by kernel_rfl) (by kernel_rfl) (by kernel_rfl) (fun _ _ _ h => h) (Or.inl ⟨by rfl, ?y6⟩) hS ?_
          case y6 => (intro w hSw; (try dsimp only at hSw); go_simp; (try with_reducible rfl))
          simp only [List.getElem_toArray, List.getElem_cons_succ, List.getElem_cons_zero, Act.put, List.setIfInBounds_toArray, List.set_cons_zero, List.set_cons_succ]
          refine wpAnyT_one (i := 7) (by kernel_rfl) rfl (fun K hK => ?_)
          go_simp
          refine hK.out _ _ (.inl rfl) ?_
          clear hK K
          refine wpAnyT_done (by kernel_rfl) ?_ _
          have HA4 : Hid (Arr (w5.setCell ⟨t, x, none⟩ (.int .u8 (y : Int))) t (fun j => .int .u8 ((tabN fr tt k1 j : Nat) : Int))) := hid ((HA3.out.set (v := .int .u8 (y : Int)) hx256).mono (fun j hj => by
            rw [show k1 = k + 1 by omega]
            unfold tabN
            rw [← FX.out, ← FY.out]
            by_cases e : j = x
            · rw [if_pos e, if_pos e]
            · rw [if_neg e, if_neg e]
              cases k <;> rfl))
          have HK4 : Hid (Kp [] w (w5.setCell ⟨t, x, none⟩ (.int .u8 (y : Int)))) := hid (HK3.out.past (T := [t]) (Kp.setCell _ _ (by simp)) (fun x hx => by simp at hx; omega))
          obtain ⟨w6, hw6⟩ : ∃ w6, w6 = w5.setCell ⟨t, x, none⟩ (.int .u8 (y : Int)) := ⟨_, rfl⟩
          rw [← hw6] at HA4 HK4 ⊢
          clear hw6 hc hf8 HA3 HK3 hS hx hy
          go_wp2_with fail
          go_round
          case rel => exact ⟨_, _, _, _, _, _, _, _, _, _, _, _, ⟨k1, by omega, rfl, HA4, HK4⟩, rfl⟩
          case measure => simp [intOf]; omega
        · have e : k = fr.length := by omega
          subst e
          have hM2 := HM.out.keep HK2.out
          have d9 := hM2.b.at_ 9 _ rfl
          rw [hs] at d9
          have hcv := run_bytes_of_string (P := Tryz.prog) wr 9 34 5 (ba L) Tryz.underlying9 Tryz.underlying34 Tryz.underlying5
          obtain ⟨cp, hcp⟩ : ∃ cp, grownCap wr (ba L).size 0 5 = cp := ⟨_, rfl⟩
          rw [hcp] at hcv
          obtain ⟨g, hg⟩ : ∃ g, g = wr.heap.size := ⟨_, rfl⟩
          obtain ⟨mk, hmk⟩ : ∃ mk, (bytesRow (ba L) cp).size = mk := ⟨_, rfl⟩
          rw [hmk, ← hg] at hcv
          have hmkl : L.length ≤ mk := by rw [← hmk, bytesRow, Array.size_append, Array.size_map]; have := ba_size L; simp [ba]
          obtain ⟨wc, hwc⟩ : ∃ wc, wc = wr.drew.alloc (.cells (bytesRow (ba L) cp) 5 (mk, mk + 1)) := ⟨_, rfl⟩
          rw [← hwc] at hcv
          have kc : Kp [] wr wc := by rw [hwc]; exact (Kp.drew [] wr).trans (Kp.alloc [] _ _)
          have R0 : ∀ j u, L[j]? = some u → wc.cell? ⟨g, j, none⟩ = some (.int .u8 (u.toNat : Int)) ∧ wc.frozen? ⟨g, j, none⟩ = false := fun j u hu => by
            have hj := (List.getElem?_eq_some_iff.1 hu).1
            have e1 := World.cell?_alloc_mark wr.drew (bytesRow (ba L) cp) 5 (mk, mk + 1) j
            have e2 := World.frozen?_alloc_mark wr.drew (bytesRow (ba L) cp) 5 mk (mk + 1) j
            rw [hwc, hg]
            refine ⟨e1.trans ?_, e2.trans ?_⟩
            · rw [bytesRow_at (ba L) cp j (by simpa [ba] using hj)]
              have : (ba L).data[j]'(by simpa [ba] using hj) = u := by
                have := (List.getElem?_eq_some_iff.1 hu).2
                simpa [ba] using this
              rw [this]
            · rw [decide_eq_false (by omega), Bool.false_and]
          have hgl : g < wc.heap.size := by rw [hwc, hg]; simp
          have HA3 := hid (HA2.out.keep kc (by simp))
          have HK3 := hid (HK2.out.trans kc)
          have hgt : t < g := by rw [hg]; exact HA2.out.lt
          have hgw : w.heap.size ≤ g := by rw [hg]; exact HK2.out.size
          have HR0 := hid R0
          have zL := ba_size L
          clear hwc hg hmk hcp kc HA2 HK2 R0 hM2
          go_wp2_with fail
          go_loopw [52, 10, 11] (fun b _ _ wr => ∃ k : Nat, k ≤ L.length ∧ b = .int .i64 k ∧ Hid (Arr wr t (fun j => .int .u8 ((tabN fr tt fr.length j : Nat) : Int))) ∧ Hid (Kp [] w wr) ∧ Hid (∀ j u, L[j]? = some u → wr.cell? ⟨g, j, none⟩ = some (.int .u8 ((if j < k then tabN fr tt fr.length u.toNat else u.toNat : Nat) : Int)) ∧ wr.frozen? ⟨g, j, none⟩ = false) ∧ Hid (g < wr.heap.size)) (fun b _ _ _ => L.length - (intOf b).toNat)
          case atStart => exact ⟨0, by omega, rfl, HA3, HK3, hid (fun j u hu => HR0.out j u hu), hid hgl⟩
          case round =>
            clear HA3 HK3 HR0
            obtain ⟨k, hk, rfl, HA, HKr, HR, HG⟩ := hrel
            by_cases hkn : k < L.length
            · obtain ⟨k1, hk1⟩ : ∃ k1 : Nat, (k : Int) + 1 = (k1 : Int) := ⟨k + 1, by omega⟩
              have wk := wrap_i64_nat k1 (by omega)
              obtain ⟨u, hu⟩ : ∃ u, L[k]? = some u := ⟨_, List.getElem?_eq_getElem hkn⟩
              obtain ⟨r1, r2⟩ := HR.out k u hu
              rw [if_neg (by omega)] at r1
              obtain ⟨x, hx⟩ : ∃ x : Nat, x = u.toNat := ⟨_, rfl⟩
              have hx256 : x < 256 := by rw [hx]; exact UInt8.toNat_lt _
              have hxi : (x : Int) < 256 := by omega
              rw [← hx] at r1
              have hc := HA.out.at_ x hx256
              obtain ⟨y, hy⟩ : ∃ y, y = tabN fr tt fr.length x := ⟨_, rfl⟩
              rw [← hy] at hc
              have HU := hid hu
              have HX := hid hx
              have HY := hid hy
              clear hu hx hy
              go_wp2_with fail
              go_round
              case rel =>
                have ks : Kp [g] wr (wr.setCell ⟨g, k, none⟩ (.int .u8 (y : Int))) := Kp.setCell _ _ (by simp)
                refine ⟨k1, by omega, rfl, hid (HA.out.keep ks (by simp; omega)), hid (HKr.out.past ks (fun q hq => by simp at hq; omega)), hid (fun j v hv => ?_), hid (by simpa using HG.out)⟩
                obtain ⟨s1, s2⟩ := HR.out j v hv
                refine ⟨?_, by simpa using s2⟩
                by_cases e : j = k
                · subst e
                  rw [if_pos (by omega), cell_same _ s1]
                  have : v = u := by rw [HU.out] at hv; injection hv with hv; exact hv.symm
                  rw [this, HY.out, HX.out]
                · rw [cell_other _ (fun q => by injection q with _ q _; exact e q.symm), s1]
                  by_cases e2 : j < k
                  · rw [if_pos e2, if_pos (by omega)]
                  · rw [if_neg e2, if_neg (by omega)]
              case measure => simp [intOf]; omega
            · have e : k = L.length := by omega
              subst e
              have hM3 := HM.out.keep HKr.out
              have d9 := hM3.b.at_ 9 _ rfl
              rw [hs] at d9
              have f9 := hM3.b.free 9
              have hcb := run_convert_bytes_back (P := Tryz.prog) wr 34 9 5 ⟨g, 0, none⟩ cp (turnL fr tt L) Tryz.underlying34 Tryz.underlying5 Tryz.underlying9 (fun j hj => by
                have hj' : j < L.length := by simpa [turnL] using hj
                have := (HR.out j _ (List.getElem?_eq_getElem hj')).1
                rw [if_pos hj'] at this
                rw [Addr.add_mid, Nat.zero_add, this]
                congr 2
                have hlt := tabN_lt fr tt fr.length (L[j]).toNat (UInt8.toNat_lt _)
                simp only [turnL, List.getElem_map]
                rw [show ((tabN fr tt fr.length (L[j]).toNat).toUInt8).toNat = tabN fr tt fr.length (L[j]).toNat from UInt8.toNat_ofNat_of_lt' hlt])
              rw [show (turnL fr tt L).length = L.length by simp [turnL]] at hcb
              have G1 := hid (Goes.pre HKr.out (Goes.set (s' := { s with space := ba (turnL fr tt L) }) hM3 9 (.string (ba (turnL fr tt L))) (by omega) rfl rfl))
              change (convert 34 9 (.slice (some ⟨g, 0, none⟩) L.length cp)).run Tryz.prog wr = .ok (.string (ba (turnL fr tt L))) wr at hcb
              clear hM3 HR HA
              go_wp2_with fail
              go_end0
              exact ⟨rfl, G1.out⟩
end
end Go.Proofs.YtonnimbcekhbgaaGreatDoor
