/- The names of classes: contracts for a name that can be read. -/
import Derived.Test.YtanpiomfnbiilaaDoorC
namespace Go.Proofs.YtanpiomfnbiilaaDoor
open Go.RowKit

/-- Is p what s begins with? -/
def preB (s p : ByteArray) : Bool := decide (p.size ≤ s.size) && ((s.extract 0 p.size).toList == p.toList)

/-- The names, and what they say: as the package's table has them. -/
def nmN : Nat → ByteArray
  | 0 => ⟨#[97, 108, 112, 104, 97]⟩
  | 1 => ⟨#[100, 105, 103, 105, 116]⟩
  | 2 => ⟨#[97, 108, 110, 117, 109]⟩
  | 3 => ⟨#[117, 112, 112, 101, 114]⟩
  | 4 => ⟨#[108, 111, 119, 101, 114]⟩
  | 5 => ⟨#[115, 112, 97, 99, 101]⟩
  | _ => ⟨#[112, 117, 110, 99, 116]⟩
def nmS : Nat → ByteArray
  | 0 => ⟨#[65, 90, 97, 122]⟩
  | 1 => ⟨#[48, 57]⟩
  | 2 => ⟨#[48, 57, 65, 90, 97, 122]⟩
  | 3 => ⟨#[65, 90]⟩
  | 4 => ⟨#[97, 122]⟩
  | 5 => ⟨#[9, 13, 32, 32]⟩
  | _ => ⟨#[33, 47, 58, 64, 91, 96, 123, 126]⟩

/-- The package's table lies in block 0. -/
structure Nm (w : World) : Prop where
  lt : 0 < w.heap.size
  name : ∀ i, i < 7 → w.cell? ⟨0, i * 2, none⟩ = some (.string (nmN i))
  spans : ∀ i, i < 7 → w.cell? ⟨0, i * 2 + 1, none⟩ = some (.string (nmS i))

theorem Nm.keep {S : List Nat} {w w' : World} (h : Nm w) (k : Kp S w w') (hn : 0 ∉ S) : Nm w' :=
  ⟨Nat.lt_of_lt_of_le h.lt k.size, fun i hi => by rw [k.cell h.lt hn]; exact h.name i hi, fun i hi => by rw [k.cell h.lt hn]; exact h.spans i hi⟩

theorem nmN_size (i : Nat) : (nmN i).size = 5 := by unfold nmN; split <;> rfl
theorem names_pre : ∀ i : Fin 7, ∀ j : Fin 5, preB (nmN i) ((nmN i).extract 0 (j + 1)) = true := by decide +kernel
theorem names_eq : ∀ i k : Fin 7, ∀ j : Fin 5, ((nmN k).toList == ((nmN i).extract 0 (j + 1)).toList) = ((j : Nat) == 4 && (k : Nat) == (i : Nat)) := by decide +kernel

set_option maxHeartbeats 400000 in
theorem hasPrefix_any (s p : ByteArray) (w : World) (_hs : s.size ≤ 1000) (_hp : p.size ≤ 3000) :
    Calls Tryd.prog 60 #[.string s, .string p] w fun e w' => e = .returned (.bool (preB s p)) ∧ w' = w := by
  go_enter Tryd.func60, Tryd.ntmps60
  go_wp2
  · go_ret
    have h : p.size ≤ s.size := by assumption
    exact ⟨by simp [preB, h], rfl⟩
  · go_ret
    have h : ¬ p.size ≤ s.size := by assumption
    exact ⟨by simp [preB, h], rfl⟩

set_option maxHeartbeats 400000 in
theorem beginsName_yes (t : ByteArray) (i : Nat) (hi : i < 7) (w : World) (ht : t.size ≤ 3000) (hw : Nm w) (hp : preB (nmN i) t = true) :
    Calls Tryd.prog 58 #[.string t] w fun e w' => e = .returned (.bool true) ∧ w' = w := by
  have HP : Hid _ := hp
  clear hp
  go_enter Tryd.func58, Tryd.ntmps58
  go_wp2
  go_loop [4] (fun v => ∃ k : Nat, k ≤ i ∧ v = .int .i64 k) (fun v => 7 - (intOf v).toNat)
  case atStart => exact ⟨0, by omega, rfl⟩
  case round =>
    obtain ⟨k, hk, rfl⟩ := hrel
    have hlt : k < 7 := by omega
    have hc := hw.name k hlt
    have hsz := nmN_size k
    have HZ : Hid _ := hsz
    clear hsz
    cases hb : preB (nmN k) t
    · have hne : k ≠ i := fun e => by rw [e, HP.out] at hb; simp at hb
      go_wp2_with (go_at_call 60; refine (hasPrefix_any _ _ _ (by rw [HZ.out]; omega) ht).mono ?_; rintro e w1 ⟨rfl, rfl⟩)
      go_round
      case rel => exact ⟨k + 1, by omega, by go_num⟩
      case measure => simp [intOf]; omega
    · go_wp2_with (go_at_call 60; refine (hasPrefix_any _ _ _ (by rw [HZ.out]; omega) ht).mono ?_; rintro e w1 ⟨rfl, rfl⟩)
      go_ret
      exact ⟨rfl, rfl⟩

/-- Where a reader looks. -/
def atOf (w : World) (b : Nat) : Nat := (intOf ((w.cell? ⟨b, 1, none⟩).getD undef)).toNat
theorem atOf_rd {w : World} {b : Nat} {src : ByteArray} {k g : Nat} (h : Rd w b src k g) : atOf w b = k := by simp [atOf, h.c1, intOf]

set_option maxHeartbeats 1000000 in
theorem name_yes {b : Nat} {src : ByteArray} {f g : Nat} {w : World} (hr : Rd w b src f g) (i : Nat) (hi : i < 7) (hw : Nm w) (hb0 : b ≠ 0) (hf : f + 5 ≤ src.size)
    (hn : ∀ j, j < 5 → src.extract f (f + (j + 1)) = (nmN i).extract 0 (j + 1)) :
    Calls Tryd.prog 56 #[.pointer (some ⟨b, 0, none⟩)] w fun e w' => e = .returned (.string (nmS i)) ∧ Rd w' b src (f + 5) g ∧ Kp [b] w w' := by
  have c1 := hr.c1
  have hsm := hr.small
  have HN : Hid _ := hn
  clear hn
  go_enter Tryd.func56, Tryd.ntmps56
  go_wp2
  clear c1
  go_loopw [2] (fun _ wr => ∃ a : Nat, f ≤ a ∧ a < f + 5 ∧ Rd wr b src a g ∧ Kp [b] w wr) (fun _ wr => 3000 - atOf wr b)
  case atStart => exact ⟨f, by omega, by omega, hr, Kp.refl _ _⟩
  case round =>
    obtain ⟨a, hfa, haf, hrr, hkp⟩ := hrel
    have HAT : Hid _ := atOf_rd hrr
    have c0 := hrr.c0
    have c1 := hrr.c1
    have f1 := hrr.free 1
    have he : ((a : Int) == (src.size : Int)) = false := by simp; omega
    have hnm := hw.keep hkp (by simpa using Ne.symm hb0)
    have hlt : a < src.size := by omega
    obtain ⟨a1, ha1⟩ : ∃ a1 : Nat, a1 = a + 1 := ⟨_, rfl⟩
    have hex : src.extract f a1 = (nmN i).extract 0 (a - f + 1) := by
      have := HN.out (a - f) (by omega)
      rwa [show f + (a - f + 1) = a1 by omega] at this
    have hpre : preB (nmN i) (src.extract f a1) = true := by
      rw [hex]; exact names_pre ⟨i, hi⟩ ⟨a - f, by omega⟩
    have heq : ∀ k, k < 7 → ((nmN k).toList == (src.extract f a1).toList) = (a - f == 4 && k == i) := fun k hk => by
      rw [hex]; exact names_eq ⟨i, hi⟩ ⟨k, hk⟩ ⟨a - f, by omega⟩
    have HQ : Hid _ := heq
    have HP : Hid _ := hpre
    have hes : (src.extract f a1).size ≤ 3000 := by simp; omega
    have HE : Hid _ := hes
    have hwr := wrap_i64_nat a1 (by omega)
    have hfa1 : f ≤ a1 := by omega
    have has1 : a1 ≤ src.size := by omega
    have hsum : (a : Int) + 1 = (a1 : Int) := by omega
    have HA1 : Hid _ := ha1
    clear hpre hes heq hex ha1
    go_wp2
    go_quiet (first | (go_at_call 28; exact ended_q hrr _) | (go_at_call 58; exact Calls.quiet_of_same (beginsName_yes _ i hi _ HE.out (hnm.keep (Kp.drewN [] _ _) (by simp)) HP.out)))
    go_wp2
    have hr2 : Rd ((wr.drewN nq).setCell ⟨b, 1, none⟩ (.int .i64 (a1 : Int))) b src a1 g := by
      have := (hrr.drewN nq).step hlt
      rwa [hsum, ← HA1.out] at this
    have hkp2 : Kp [b] w ((wr.drewN nq).setCell ⟨b, 1, none⟩ (.int .i64 (a1 : Int))) := hkp.trans ((Kp.drewN _ _ _).trans (Kp.setCell _ _ (by simp)))
    clear c0 c1 f1 he hnm hwr hsum
    go_loopw [44] (fun v wl => ∃ k : Nat, k ≤ 7 ∧ (a - f = 4 → k ≤ i) ∧ v = .int .i64 k ∧ Rd wl b src a1 g ∧ Kp [b] w wl) (fun v _ => 7 - (intOf v).toNat)
    case atStart => exact ⟨0, by omega, by omega, rfl, hr2, hkp2⟩
    case round =>
      obtain ⟨k, hk7, hki, rfl, hrl, hkl⟩ := hrel
      by_cases hk : k < 7
      · have c0 := hrl.c0
        have c1 := hrl.c1
        have hnm := hw.keep hkl (by simpa using Ne.symm hb0)
        have n0 := hnm.name k hk
        have n1 := hnm.spans k hk
        have hq := HQ.out k hk
        have HK : Hid _ := hki
        clear hr2 hki hrr
        by_cases hc : (a - f == 4 && k == i) = true
        · rw [hc] at hq
          have hc' : a - f = 4 ∧ k = i := by simpa using hc
          have HC : Hid _ := hc'
          clear hc hc'
          go_wp2
          go_quiet (fail)
          go_wp2
          go_ret
          refine ⟨?_, ?_, ?_⟩
          · rw [← HC.out.2]; rfl
          · have := hrl.drewN nq
            rwa [show a1 = f + 5 by have := HC.out.1; have := HA1.out; omega] at this
          · exact hkl.trans (Kp.drewN _ _ _)
        · have hc2 : (a - f == 4 && k == i) = false := by simpa using hc
          rw [hc2] at hq
          have HC : Hid _ := hc2
          clear hc hc2
          go_wp2
          go_quiet (fail)
          go_wp2
          go_roundw
          case rel =>
            refine ⟨k + 1, by omega, ?_, by go_num, hrl.drewN _, hkl.trans (Kp.drewN _ _ _)⟩
            intro h4
            have h5 := HK.out h4
            have h6 : ¬ k = i := fun e => by have := HC.out; simp [h4, e] at this
            omega
          case measure => simp [intOf]; omega
      · have h4 : a - f ≠ 4 := fun h => by have := hki h; omega
        clear hki hr2 hrr
        go_wp2
        go_roundw
        case rel => exact ⟨a1, by omega, by have := HA1.out; omega, hrl, hkl⟩
        case measure =>
          rw [atOf_rd hrl, HAT.out]
          have := HA1.out
          omega

theorem nmS_ok (i : Nat) : (nmS i).size ≤ 1000 := by unfold nmS; split <;> decide
theorem nmS_big (i : Nat) : (nmS i).size ≤ 8 := by unfold nmS; split <;> decide
theorem nmS_six (i : Nat) (h : 6 ≤ i) : nmS i = nmS 6 := by
  match i, h with
  | i + 6, _ => rfl
theorem nmS_tab : ∀ i : Fin 7, ∀ k : Fin 8, (k : Nat) % 2 = 0 → (((nmS i).data.getD k 0).toNat ≤ ((nmS i).data.getD (k + 1) 0).toNat ∨ (nmS i).size ≤ k + 1) := by decide +kernel
theorem nmS_ord (i : Nat) : ∀ k, (h : k + 1 < (nmS i).size) → k % 2 = 0 → ((nmS i)[k]'(by omega)).toNat ≤ ((nmS i)[k + 1]'h).toNat := by
  intro k h hk
  have hb := nmS_big i
  have e : ∀ (l : ByteArray) (j : Nat) (hj : j < l.size), l[j] = l.data.getD j 0 := fun l j hj => by
    show l.data[j] = _
    rw [Array.getD_eq_getD_getElem?, Array.getElem?_eq_getElem hj]; rfl
  rw [e, e]
  by_cases hi : i < 7
  · rcases nmS_tab ⟨i, hi⟩ ⟨k, by omega⟩ hk with h1 | h1
    · exact h1
    · exact absurd h1 (Nat.not_le.2 h)
  · have h6 := nmS_six i (by omega)
    rw [h6] at h hb ⊢
    rcases nmS_tab ⟨6, by omega⟩ ⟨k, by omega⟩ hk with h1 | h1
    · exact h1
    · exact absurd h1 (Nat.not_le.2 h)

/-- An item that is a name. -/
theorem item_name {b s : Nat} {src : ByteArray} {k g : Nat} {m : Nat → Bool} {w : World} (hr : Rd w b src k g) (hs : St w s m) (hw : Nm w) (hb0 : b ≠ 0) (hbs : b ≠ s) (i : Nat) (hi : i < 7)
    (h1 : saw src k 91 = true) (h2 : saw src (k + 1) 58 = true) (hf : k + 2 + 5 ≤ src.size)
    (hn : ∀ j, j < 5 → src.extract (k + 2) (k + 2 + (j + 1)) = (nmN i).extract 0 (j + 1)) (h3 : saw src (k + 7) 58 = true) (h4 : saw src (k + 8) 93 = true) :
    Calls Tryd.prog 51 #[.pointer (some ⟨b, 0, none⟩), .pointer (some ⟨s, 0, none⟩)] w fun e w' => e = .returned (.tuple #[]) ∧ Rd w' b src (k + 9) g ∧ St w' s (addSp m (nmS i).data.toList) ∧ Kp [s, b] w w' := by
  go_enter Tryd.func51, Tryd.ntmps51
  go_wp2_with fail
  refine (take_yes 91 hr h1).mono ?_
  rintro e w1 ⟨rfl, r1, k1⟩
  go_wp2_with fail
  refine (expect_yes 58 r1 h2).mono ?_
  rintro e w2 ⟨rfl, r2, k2⟩
  go_wp2_with fail
  refine (name_yes r2 i hi (hw.keep (k1.trans k2) (by simpa using Ne.symm hb0)) hb0 hf hn).mono ?_
  rintro e w3 ⟨rfl, r3, k3⟩
  go_wp2_with fail
  refine (addSpans_any s m (nmS i) _ (hs.keep ((k1.trans k2).trans k3) (by simpa using Ne.symm hbs)) (nmS_ok i) (nmS_ord i)).mono ?_
  rintro e w4 ⟨rfl, s4, k4⟩
  have r4 := r3.keep k4 (by simpa using hbs)
  go_wp2_with fail
  refine (expect_yes 58 r4 h3).mono ?_
  rintro e w5 ⟨rfl, r5, k5⟩
  go_wp2_with fail
  refine (expect_yes 93 r5 h4).mono ?_
  rintro e w6 ⟨rfl, r6, k6⟩
  go_wp2_with fail
  refine bodyPost_ret (results_none rfl _ _ _) rfl ?_
  refine ⟨rfl, r6, s4.keep (k5.trans k6) (by simpa using Ne.symm hbs), ?_⟩
  exact ((((((k1.trans k2).trans k3).mono (by simp)).trans (k4.mono (by simp))).trans (k5.mono (by simp))).trans (k6.mono (by simp)))

/-- An item that is two bytes with a - between them. -/
theorem item_span {b s : Nat} {src : ByteArray} {k g : Nat} {m : Nat → Bool} {w : World} (hr : Rd w b src k g) (hs : St w s m) (hbs : b ≠ s)
    (h1 : saw src k 91 = false) (hk : k + 2 < src.size) (hx : saw src k 92 = false) (hx2 : saw src k 10 = false) (hbx : Lib.indexByte [92, 91, 93, 45] (src[k]'(by omega)) = -1)
    (h2 : saw src (k + 1) 45 = true) (hy : saw src (k + 2) 92 = false) (hy2 : saw src (k + 2) 10 = false) (hby : Lib.indexByte [92, 91, 93, 45] (src[k + 2]'hk) = -1)
    (hxy : (src[k]'(by omega)).toNat ≤ (src[k + 2]'hk).toNat) :
    Calls Tryd.prog 51 #[.pointer (some ⟨b, 0, none⟩), .pointer (some ⟨s, 0, none⟩)] w fun e w' => e = .returned (.tuple #[]) ∧ Rd w' b src (k + 3) g ∧ St w' s (span m (src[k]'(by omega)).toNat ((src[k + 2]'hk).toNat + 1)) ∧ Kp [s, b] w w' := by
  have hk0 : k < src.size := by omega
  have hl : ¬ ((src[k + 2]'hk).toNat < (src[k]'hk0).toNat) := by omega
  have hl' : decide (((src[k + 2]'hk).toNat : Int) < ((src[k]'hk0).toNat : Int)) = false := by simp; omega
  go_enter Tryd.func51, Tryd.ntmps51
  go_wp2_with fail
  refine (take_no 91 hr h1).mono ?_
  rintro e w1 ⟨rfl, r1, k1⟩
  go_wp2_with fail
  refine (byteOf_plain _ _ r1 hk0 hx hx2 hbx).mono ?_
  rintro e w2 ⟨rfl, r2, k2⟩
  go_wp2_with fail
  refine (take_yes 45 r2 h2).mono ?_
  rintro e w3 ⟨rfl, r3, k3⟩
  have c1 := r3.c1
  go_wp2_with fail
  refine (byteOf_plain _ _ r3 hk hy hy2 hby).mono ?_
  rintro e w4 ⟨rfl, r4, k4⟩
  clear c1
  have kk := ((k1.trans k2).trans k3).trans k4
  go_wp2_with fail
  refine (add_any s m _ _ (UInt8.toNat_lt _) (UInt8.toNat_lt _) hxy _ (hs.keep kk (by simpa using Ne.symm hbs))).mono ?_
  rintro e w5 ⟨rfl, s5, k5⟩
  go_wp2_with fail
  go_end0
  exact ⟨rfl, r4.keep k5 (by simpa using hbs), s5, (kk.mono (by simp)).trans (k5.mono (by simp))⟩
end Go.Proofs.YtanpiomfnbiilaaDoor
