/- One text out of several: B C. -/
import Derived.Test.YtonnimbcekhbgaaGreatDoorRows
import Derived.Test.YtonnimbcekhbgaaGreatDoorMToA
import Derived.WalkLawsBesides
import Derived.BigQuiet
import Derived.Deep.RegionWith
import Derived.Lib.Bytealg

/- The functions of a set of bytes: contracts. -/
namespace Go.Proofs.YtonnimbcekhbgaaGreatDoor
open Go.RowKit

/-- A set as a value. -/
abbrev setV (m : Nat → Bool) : Value := .agg #[.int .u64 (wd m 0), .int .u64 (wd m 1), .int .u64 (wd m 2), .int .u64 (wd m 3)]

theorem words_at (m : Nat → Bool) (i : Nat) (h : i < 4) : [Value.int .u64 (wd m 0), .int .u64 (wd m 1), .int .u64 (wd m 2), .int .u64 (wd m 3)][i]? = some (.int .u64 (wd m i)) := by
  match i, h with
  | 0, _ => rfl
  | 1, _ => rfl
  | 2, _ => rfl
  | 3, _ => rfl

set_option maxHeartbeats 400000 in
theorem has_any (m : Nat → Bool) (x : Nat) (hx : x < 256) (w : World) :
    Calls Tryz.prog 170 #[setV m, .int .u8 x] w fun e w' => e = .returned (.bool (m x)) ∧ Kp [] w w' := by
  have hv := words_at m (x / 64) (by omega)
  have hb := has_bit m x
  unfold setV
  generalize (wd m 0 : Int) = a0 at *
  generalize (wd m 1 : Int) = a1 at *
  generalize (wd m 2 : Int) = a2 at *
  generalize (wd m 3 : Int) = a3 at *
  generalize (wd m (x / 64) : Int) = a4 at *
  have HB : Hid _ := hb
  clear hb
  go_enter Tryz.func170, Tryz.ntmps170
  go_wp2
  go_ret
  exact ⟨by rw [← HB.out]; rfl, Kp.alloc _ _ _⟩

set_option maxHeartbeats 400000 in
theorem add_any (b : Nat) (m : Nat → Bool) (x y : Nat) (hx : x < 256) (hy : y < 256) (hxy : x ≤ y) (w : World) (hs : St w b m) :
    Calls Tryz.prog 178 #[.pointer (some ⟨b, 0, none⟩), .int .u8 x, .int .u8 y] w fun e w' => e = .returned (.tuple #[]) ∧ St w' b (span m x (y + 1)) ∧ Kp [b] w w' := by
  go_enter Tryz.func178, Tryz.ntmps178
  go_wp2
  go_loopw [6] (fun i wr => ∃ k : Nat, x ≤ k ∧ k ≤ y + 1 ∧ i = .int .i64 k ∧ St wr b (span m x k) ∧ Kp [b] w wr) (fun i _ => y + 1 - (intOf i).toNat)
  case atStart => exact ⟨x, Nat.le_refl _, by omega, rfl, by rw [span_none]; exact hs, Kp.refl _ _⟩
  case round =>
    obtain ⟨k, hk1, hk2, rfl, hst, hkp⟩ := hrel
    by_cases hlt : k ≤ y
    · have hq : k / 64 < 4 := by omega
      have hc1 := hst.cell (k / 64) hq
      have hf1 := hst.free (k / 64)
      have hst2 : Hid (∀ j, j < 4 → wr.cell? ⟨b, j, none⟩ = some (.int .u64 (wd (span m x k) j))) := hst.cell
      have hfr : Hid (∀ j, wr.frozen? ⟨b, j, none⟩ = false) := hst.free
      have hbl := hst.lt
      have hso := more_same (span m x k) k
      have HS : Hid _ := hso
      have hmo := span_more m x k hk1
      have HM : Hid _ := hmo
      clear hso hmo hst hs
      generalize hm' : span m x k = m' at *
      clear hm'
      go_wp2
      go_region
      go_wp2
      go_roundw
      case rel =>
        refine ⟨k + 1, by omega, by omega, by go_num, ⟨?_, ?_, ?_⟩, ?_⟩
        · simpa [World.setCell] using hbl
        · intro j hj
          rw [HS.out, ← HM.out]
          by_cases e : j = k / 64
          · subst e; simp [World.cell?_setCell_same, hc1]
          · rw [more_other _ _ _ e]
            have := hst2.out j hj
            simpa [World.cell?_setCell_other, e, Ne.symm e] using this
        · intro j; simpa using hfr.out j
        · exact hkp.trans ((Kp.setCell _ _ (by simp)).trans (Kp.drew _ _))
      case measure => simp [intOf]; omega
    · have e : k = y + 1 := by omega
      subst e
      clear hs
      go_wp2
      go_end0
      exact ⟨rfl, hst, hkp⟩

set_option maxHeartbeats 400000 in
theorem others_any (m : Nat → Bool) (w : World) :
    Calls Tryz.prog 175 #[setV m] w fun e w' => e = .returned (setV fun x => !m x) ∧ Kp [] w w' := by
  have hsg : IntKind.u64.signed = false := rfl
  unfold setV
  go_enter Tryz.func175, Tryz.ntmps175
  go_wp2
  refine wp_loop_rounds 5 ?_
  rw [rounds_succ]
  go_wp2
  rw [rounds_succ]
  go_wp2
  rw [rounds_succ]
  go_wp2
  rw [rounds_succ]
  go_wp2
  rw [rounds_succ]
  go_wp2
  refine bodyPost_ret (v := .agg #[.int .u64 (wd (fun x => !m x) 0), .int .u64 (wd (fun x => !m x) 1), .int .u64 (wd (fun x => !m x) 2), .int .u64 (wd (fun x => !m x) 3)]) (by simp [results, Tryz.results175, go_sem, not_wd]) rfl ⟨rfl, (Kp.alloc _ _ _).trans (Kp.alloc _ _ _)⟩

set_option maxHeartbeats 800000 in
theorem addSpans_any (b : Nat) (m : Nat → Bool) (s : ByteArray) (w : World) (hs : St w b m) (hlen : s.size ≤ 1000)
    (hord : ∀ k, (h : k + 1 < s.size) → k % 2 = 0 → (s[k]'(by omega)).toNat ≤ (s[k + 1]'h).toNat) :
    Calls Tryz.prog 183 #[.pointer (some ⟨b, 0, none⟩), .string s] w fun e w' => e = .returned (.tuple #[]) ∧ St w' b (addSp m s.data.toList) ∧ Kp [b] w w' := by
  go_enter Tryz.func183, Tryz.ntmps183
  go_wp2
  go_loopw [4] (fun i wr => ∃ (k : Nat) (m' : Nat → Bool), k ≤ s.size + 1 ∧ k % 2 = 0 ∧ i = .int .i64 k ∧ St wr b m' ∧ Kp [b] w wr ∧ Hid (addSp m' (s.data.toList.drop k) = addSp m s.data.toList)) (fun i _ => s.size + 2 - (intOf i).toNat)
  case atStart => exact ⟨0, m, by omega, rfl, rfl, hs, Kp.refl _ _, rfl⟩
  case round =>
    obtain ⟨k, m', hk, hk2, rfl, hst, hkp, he⟩ := hrel
    by_cases hlt : k + 1 < s.size
    · obtain ⟨k1, hk1⟩ : ∃ k1 : Nat, k1 = k + 1 := ⟨_, rfl⟩
      have hkI : (k : Int) + 1 = (k1 : Int) := by omega
      have hk1s : k1 < s.size := by omega
      have hb1' : k < s.size := by omega
      have hstep := addSp_step m' s k k1 hb1' hk1s hk1
      have HS : Hid _ := hstep
      have ho : s[k].toNat ≤ s[k1].toNat := by subst hk1; exact hord k hlt hk2
      have hb1 : s[k].toNat < 256 := UInt8.toNat_lt _
      have hb2 : (s[k1]).toNat < 256 := UInt8.toNat_lt _
      have hwr := wrap_i64_nat k1 (by omega)
      clear hstep hord hs hlt hk1
      go_wp2
      go_region_with (go_at_call 178; refine (add_any b m' _ _ hb1 hb2 ho _ (by exact hst.keep (Kp.drew [] _) (by simp))).mono ?_; rintro e w1 ⟨rfl, hst1, hkp1⟩)
      all_goals go_wp2
      all_goals go_roundw
      all_goals first
        | exact ⟨k + 2, _, by omega, by omega, by go_num, hst1, hkp.trans ((Kp.drew _ _).trans hkp1), HS.out.symm.trans he⟩
        | (simp [intOf]; omega)
    · have := addSp_end m' s k (by omega)
      have HE : Hid _ := this
      clear this
      clear hs hord
      go_wp2
      go_end0
      exact ⟨rfl, by rw [← he.out, HE.out]; exact hst, hkp⟩
end Go.Proofs.YtonnimbcekhbgaaGreatDoor

/- Reading a byte of a class, its items and its names: contracts for what can be read. -/
namespace Go.Proofs.YtonnimbcekhbgaaGreatDoor
open Go.RowKit

theorem run_index53 (s : ByteArray) (c : Int) (w : World) :
    (callFunc 155 #[.string s, .int .u8 c]).run Tryz.prog w = .ok (.value (.int .i64 (Lib.indexByte s.data.toList c.toNat.toUInt8))) w := by
  rw [run_callFunc_extern Tryz.func155 (by kernel_rfl) (by kernel_rfl) (by kernel_rfl) (e := Extern.BytealgIndexByte.indexByte) (by kernel_rfl), Lib.run_indexByteString]
  rfl

set_option maxHeartbeats 400000 in
theorem index_any (s : ByteArray) (c : Int) (w : World) :
    Calls Tryz.prog 129 #[.string s, .int .u8 c] w fun e w' => e = .returned (.int .i64 (Lib.indexByte s.data.toList c.toNat.toUInt8)) ∧ w' = w := by
  have h := run_index53
  go_enter Tryz.func129, Tryz.ntmps129
  go_wp2
  go_ret
  exact ⟨rfl, rfl⟩

theorem index_q (s : ByteArray) (c : Int) {v : Int} (h : Lib.indexByte s.data.toList c.toNat.toUInt8 = v) (w : World) (n : Nat) :
    Calls Tryz.prog 129 #[.string s, .int .u8 c] (w.drewN n) fun e w'' => e = .returned (.int .i64 v) ∧ ∃ m, w'' = w.drewN m := by
  subst h
  exact Calls.quiet_of_same (index_any s c _)

set_option maxHeartbeats 800000 in
theorem byteOf_plain {b : Nat} {src : ByteArray} {k g : Nat} (barred behind : ByteArray) {w : World} (hr : Rd w b src k g) (hk : k < src.size)
    (h92 : saw src k 92 = false) (h10 : saw src k 10 = false) (hbar : Lib.indexByte barred.data.toList src[k] = -1) :
    Calls Tryz.prog 177 #[.pointer (some ⟨b, 0, none⟩), .string barred, .string behind] w fun e w' => e = .returned (.int .u8 (src[k]).toNat) ∧ Rd w' b src (k + 1) g ∧ Kp [b] w w' := by
  go_enter Tryz.func177, Tryz.ntmps177
  go_wp2_with (go_at_call 116; refine (take_no 92 hr h92).mono ?_; rintro e w1 ⟨rfl, h1, h2⟩)
  have c0 := h1.c0
  have c1 := h1.c1
  have f1 := h1.free 1
  have hsm := h1.small
  have he : ((k : Int) == (src.size : Int)) = false := by simp; omega
  have hix : Lib.indexByte barred.data.toList ((src[k].toNat : Int)).toNat.toUInt8 = -1 := by simpa using hbar
  go_quiet (first | (go_at_call 79; exact ended_q h1 _) | (go_at_call 104; exact sees_q 10 h1 h10 _) | (go_at_call 129; exact index_q _ _ hix _ _))
  go_wp2
  go_quiet (fail)
  go_wp2
  go_ret
  exact ⟨rfl, ((h1.drewN _).step hk).drewN _, h2.trans ((Kp.drewN _ _ _).trans ((Kp.setCell _ _ (by simp)).trans (Kp.drewN _ _ _)))⟩
end Go.Proofs.YtonnimbcekhbgaaGreatDoor
