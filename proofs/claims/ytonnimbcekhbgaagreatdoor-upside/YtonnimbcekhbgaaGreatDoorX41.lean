/- What the claim needs of: KQ. -/
import Derived.Test.YtonnimbcekhbgaaGreatDoorX19
import Derived.Test.YtonnimbcekhbgaaGreatDoorX07
import Derived.Test.YtonnimbcekhbgaaGreatDoorX39

/- KQ. -/
namespace Go.Proofs.YtonnimbcekhbgaaGreatDoor
open Go.RowKit

section
variable {w w' : World} {b k : Nat} {src : ByteArray}

theorem sees_qc (x : Int) (hr : Cur w b src k) {v : Bool} (h : saw src k x = v) (n : Nat) :
    Calls Tryz.prog 104 #[.pointer (some ⟨b, 0, none⟩), .int .u8 x] (w.drewN n) fun e w'' => e = .returned (.bool v) ∧ ∃ m, w'' = w.drewN m := by
  subst h
  exact Calls.quiet_of (sees_c x (hr.drewN n))
theorem Cur.set {k2 : Nat} (h : Cur w b src k) (hk : k2 ≤ src.size) : Cur (w.setCell ⟨b, 1, none⟩ (.int .i64 k2)) b src k2 :=
  ⟨by simpa [World.setCell] using h.lt, hk, h.small, (cell_other _ (fun e => by injection e with _ e _; omega)).trans h.c0, cell_same _ h.c1, fun i => by simpa using h.free i⟩
theorem saw_other {x y : Int} (h : saw src k x = true) (hxy : x ≠ y) : saw src k y = false := by
  unfold saw at h ⊢
  split at h
  · rename_i hk
    rw [dif_pos hk]
    simp at h ⊢
    rw [h]; exact hxy
  · cases h

set_option maxHeartbeats 2000000 in
theorem hole_amp {G : Nat} (hr : Cur w b src k) (h : saw src k 38 = true) :
    Calls Tryz.prog 133 #[.pointer (some ⟨b, 0, none⟩), .int .i64 G] w fun e w' => e = .returned (.tuple #[.int .i64 ((0 : Nat) : Int), .bool true]) ∧ Cur w' b src (k + 1) ∧ Mv b w w' := by
  have H := hid (take_v 38 hr h)
  clear h
  go_enter Tryz.func133, Tryz.ntmps133
  go_wp2_with fail
  refine H.out.mono ?_
  rintro e w1 ⟨rfl, h1, m1⟩
  go_wp2_with fail
  go_ret2
  exact ⟨rfl, h1, m1⟩

set_option maxHeartbeats 4000000 in
theorem hole_no {G : Nat} (hr : Cur w b src k) (h : saw src k 38 = false) (h2 : saw src k 92 = false) :
    Calls Tryz.prog 133 #[.pointer (some ⟨b, 0, none⟩), .int .i64 G] w fun e w' => e = .returned (.tuple #[.int .i64 0, .bool false]) ∧ Cur w' b src k ∧ Mv b w w' := by
  have H := hid (take_v 38 hr h)
  have H2 := hid h2
  clear h h2
  go_enter Tryz.func133, Tryz.ntmps133
  go_wp2_with fail
  refine H.out.mono ?_
  rintro e w1 ⟨rfl, h1, m1⟩
  have h1 : Cur w1 b src k := h1
  have S := hid (fun n => sees_qc 92 h1 H2.out n)
  go_wp2_with fail
  go_quiet ((go_at_call 104; exact S.out _))
  go_wp2_with fail
  go_ret2
  exact ⟨rfl, h1.drewN _, m1.trans (Mv.drewN _ _ _)⟩

set_option maxHeartbeats 4000000 in
theorem hole_digit {G d : Nat} (hr : Cur w b src k) (h : saw src k 92 = true) (hk : k + 1 < src.size) (hd : (src[k + 1]).toNat = 48 + d) (h1d : 1 ≤ d) (hdG : d ≤ G) (hG : G ≤ 9) :
    Calls Tryz.prog 133 #[.pointer (some ⟨b, 0, none⟩), .int .i64 G] w fun e w' => e = .returned (.tuple #[.int .i64 d, .bool true]) ∧ Cur w' b src (k + 2) ∧ Mv b w w' := by
  have h38 : saw src k 38 = false := saw_other h (by decide)
  have H := hid (take_v 38 hr h38)
  have H2 := hid h
  clear h h38
  go_enter Tryz.func133, Tryz.ntmps133
  go_wp2_with fail
  refine H.out.mono ?_
  rintro e w1 ⟨rfl, h1, m1⟩
  have h1 : Cur w1 b src k := h1
  have S := hid (fun n => sees_qc 92 h1 H2.out n)
  have c0 := h1.c0
  have c1 := h1.c1
  have hsm := h1.small
  obtain ⟨k1, hk1⟩ : ∃ k1 : Nat, (k : Int) + 1 = (k1 : Int) := ⟨k + 1, by omega⟩
  have wk1 := wrap_i64_nat k1 (by omega)
  have hne : ((k1 : Int) == (src.size : Int)) = false := by rw [beq_eq_false_iff_ne]; omega
  go_wp2_with fail
  go_quiet ((go_at_call 104; exact S.out _))
  have h2 := h1.drewN nq
  have m2 := m1.trans (Mv.drewN b w1 nq)
  generalize w1.drewN nq = w2 at *
  clear c0 c1 S h1 m1
  have c0 := h2.c0
  have c1 := h2.c1
  have f1 := h2.free 1
  have hkk : k1 < src.size := by omega
  obtain ⟨y, hy⟩ : ∃ y : Nat, y = 48 + d := ⟨_, rfl⟩
  have c5 : (⟨src.data⟩ : ByteArray)[k1].toNat = y := by
    have e : k1 = k + 1 := by omega
    subst e
    exact hd.trans hy.symm
  have ey : (y : Int) - 48 = (d : Int) := by omega
  have wd := wrap_i64_nat d (by omega)
  have wy := wrap_i64_nat y (by omega)
  have d1 : ¬ ((d : Int) < 1) := by omega
  have d2 : ¬ ((G : Int) < (d : Int)) := by omega
  have HY := hid hy
  have HD := hid hd
  clear hd hy
  obtain ⟨k2, hk2⟩ : ∃ k2 : Nat, (k : Int) + 2 = (k2 : Int) := ⟨k + 2, by omega⟩
  have wk2 := wrap_i64_nat k2 (by omega)
  go_wp2_with fail
  go_quiet (fail)
  go_wp2_with fail
  go_ret2
  have h3 := h2.drewN nq
  have e2 : k2 = k + 2 := by omega
  refine ⟨rfl, ?_, (m2.trans (Mv.drewN b w2 nq)).trans (Mv.step b _ _)⟩
  rw [← e2]
  exact h3.set (by omega)

/-- What is put there, up to the slash: the plain text, its holes, where it ends. -/
def newN (s : ByteArray) (G : Nat) : Nat → Nat → List UInt8 → List (Nat × Nat) → Option (List UInt8 × List (Nat × Nat) × Nat)
  | 0, _, _, _ => none
  | n + 1, k, acc, hs => if h : k < s.size then
      if saw s k 10 then none else if saw s k 47 then some (acc, hs, k + 1)
      else if saw s k 38 then newN s G n (k + 1) acc (hs ++ [(acc.length, 0)])
      else if saw s k 92 then (if h2 : k + 1 < s.size then (if 49 ≤ (s[k + 1]).toNat ∧ (s[k + 1]).toNat ≤ 48 + G then newN s G n (k + 2) acc (hs ++ [(acc.length, (s[k + 1]).toNat - 48)]) else none) else none)
      else newN s G n (k + 1) (acc ++ [s[k]]) hs
    else none
theorem newN_le {s : ByteArray} {G : Nat} : ∀ {n k : Nat} {acc L : List UInt8} {hs H : List (Nat × Nat)} {e : Nat}, newN s G n k acc hs = some (L, H, e) → k < e ∧ e ≤ s.size ∧ acc.length ≤ L.length ∧ hs.length ≤ H.length ∧ L.length + H.length ≤ acc.length + hs.length + (e - k)
  | 0, _, _, _, _, _, _, h => by cases h
  | n + 1, k, acc, L, hs, H, e, h => by
    unfold newN at h
    split at h
    · rename_i hk
      split at h
      · cases h
      split at h
      · injection h with h
        injection h with h1 h2
        injection h2 with h2 h3
        subst h1 h2 h3
        omega
      split at h
      · have := newN_le h
        rw [List.length_append, List.length_singleton] at this
        omega
      split at h
      · split at h
        · split at h
          · have := newN_le h
            rw [List.length_append, List.length_singleton] at this
            omega
          · cases h
        · cases h
      · have := newN_le h
        rw [List.length_append, List.length_singleton] at this
        omega
    · cases h

abbrev holeV (H : List (Nat × Nat)) : List Value := H.flatMap fun q : Nat × Nat => [Value.int .i64 (q.1 : Int), .int .i64 (q.2 : Int)]
theorem Tryz.infoHole : (Tryz.prog.info? 152).map (fun i => (i.zero, i.size, i.bytes)) = some (some (.agg #[.int .i64 0, .int .i64 0]), 2, 16) := by kernel_rfl
theorem Tryz.szNew : (Tryz.prog.info? 94).map (·.size) = some 3 := by kernel_rfl
theorem holeV_snoc (H : List (Nat × Nat)) (a g : Nat) : holeV (H ++ [(a, g)]) = holeV H ++ [.int .i64 (a : Int), .int .i64 (g : Int)] := by simp [holeV]
theorem own_base {lo lo2 size n : Nat} {e : TypeId} {v : Value} {xs : List Value} (h : w.ownsRow lo e size v n xs) (hl : lo2 ≤ lo) : w.ownsRow lo2 e size v n xs := by
  refine ⟨h.1, ?_⟩
  rcases h.2 with q | ⟨g, cap, cur, q1, q2, q3⟩
  · exact .inl q
  · exact .inr ⟨g, cap, cur, q1, Nat.le_trans hl q2, q3⟩

set_option maxRecDepth 100000 in
set_option maxHeartbeats 8000000 in
theorem newText_v {n e G : Nat} {L : List UInt8} {H : List (Nat × Nat)} (hr : Cur w b src k) (hG : G ≤ 9) (h : newN src G n k [] [] = some (L, H, e)) :
    Calls Tryz.prog 107 #[.pointer (some ⟨b, 0, none⟩), .int .i64 G] w fun r w' => ∃ v, r = .returned (.agg #[.string (src.extract k (e - 1)), .string (ba L), v]) ∧ w'.ownsRow w.heap.size 152 2 v H.length (holeV H) ∧ Cur w' b src e ∧ Mv b w w' := by
  have hsm := hr.small
  have hlt := hr.lt
  have hLl := newN_le h
  rw [List.length_nil, List.length_nil] at hLl
  have HH := hid h
  clear h
  obtain ⟨i0, hi, hz0, hz1, hz2⟩ := info_parts Tryz.infoByte
  have HI := hid (And.intro hi (And.intro hz0 (And.intro hz1 hz2)))
  clear hi hz0 hz1 hz2
  obtain ⟨j0, hi, hz0, hz1, hz2⟩ := info_parts Tryz.infoHole
  have HJ := hid (And.intro hi (And.intro hz0 (And.intro hz1 hz2)))
  clear hi hz0 hz1 hz2
  have k1 := Kp.alloc [] w (.cells #[.string ⟨#[]⟩, .string ⟨#[]⟩, .slice none 0 0] 94)
  have BP := Bl.alloc w [.string ⟨#[]⟩, .string ⟨#[]⟩, .slice none 0 0] 94
  obtain ⟨p, hp⟩ : ∃ p, p = w.heap.size := ⟨_, rfl⟩
  obtain ⟨wt, hwp⟩ : ∃ wt, wt = w.alloc (.cells #[.string ⟨#[]⟩, .string ⟨#[]⟩, .slice none 0 0] 94) := ⟨_, rfl⟩
  have hr2 := hr.keep k1 (by simp)
  have m2 : Mv b w wt := by rw [hwp]; exact ⟨k1.mono (by simp), fun j _ => k1.cell (p := ⟨b, j, none⟩) hlt (by simp)⟩
  have hpb : p ≠ b := by omega
  rw [← hp, ← hwp] at BP
  rw [← hwp] at k1 hr2
  have hpw : p < wt.heap.size := BP.lt
  have c1 := hr.c1
  go_enter Tryz.func107, Tryz.ntmps107
  go_upto_region 1 with fail
  rw [← hp, ← hwp]
  have HP := hid hp
  clear hp hwp c1
  have c1 := hr2.c1
  have hbs := hid (Nat.le_refl wt.heap.size)
  have B2 := BP
  clear k1 hr BP
  go_wp2_with fail
  go_loopw [6, 7] (fun v vh wr => ∃ a m acc hs, k ≤ a ∧ Cur wr b src a ∧ Hid (Mv b w wr) ∧ Hid (Bl wr p [.string ⟨#[]⟩, .string ⟨#[]⟩, .slice none 0 0]) ∧ Hid (wr.ownsRow wt.heap.size 5 1 v acc.length (Lib.byteCells acc)) ∧ Hid (wr.ownsRow wt.heap.size 152 2 vh hs.length (holeV hs)) ∧ Hid (∀ g, v.ownBlock = some g → vh.ownBlock ≠ some g) ∧ Hid (newN src G m a acc hs = some (L, H, e)) ∧ Hid (wt.heap.size ≤ wr.heap.size)) (fun _ _ wr => 3000 - curAt wr b)
  case atStart => exact ⟨k, n, [], [], Nat.le_refl _, hr2, hid m2, hid B2, hid ⟨rfl, .inl ⟨rfl, rfl⟩⟩, hid ⟨rfl, .inl ⟨rfl, rfl⟩⟩, hid (fun g hg => by cases hg), HH, hbs⟩
  case round =>
    clear hr2 m2 B2 HH hbs c1
    obtain ⟨a, m, acc, hs, hka, hrr, HM, HB, HO, HQ, HX, HN, HS⟩ := hrel
    have HAT := hid (curAt_of hrr)
    match m, HN with
    | 0, HN => cases HN.out
    | m + 1, HN =>
    have hN := HN.out
    have hle := newN_le hN
    unfold newN at hN
    clear HN
    have hk : a < src.size := by omega
    rw [dif_pos hk] at hN
    obtain ⟨A5, cp5, e5⟩ := own_slice HO.out
    subst e5
    obtain ⟨A6, cp6, e6⟩ := own_slice HQ.out
    subst e6
    have hbl : b < wt.heap.size := by have := HP.out; omega
    have gb : Hid (∀ g, (Value.slice A5 acc.length cp5).ownBlock = some g → wt.heap.size ≤ g) := hid (fun g hg => (own_lt HO.out hg).1)
    have gh : Hid (∀ g, (Value.slice A6 hs.length cp6).ownBlock = some g → wt.heap.size ≤ g) := hid (fun g hg => (own_lt HQ.out hg).1)
    cases h10 : saw src a 10
    case true => rw [h10] at hN; cases hN
    rw [h10, if_neg (by simp)] at hN
    cases h47 : saw src a 47
    case true =>
      rw [h47, if_pos rfl] at hN
      injection hN with hN
      injection hN with e1 e2
      injection e2 with e2 e3
      subst e1 e2 e3
      have SH := hid (shut_v hrr hk h10 h47)
      clear h10 h47 hle
      go_wp2_with fail
      refine SH.out.mono ?_
      rintro r w1 ⟨rfl, h1, m1⟩
      have B1 := hid (HB.out.keep m1.kp (by simpa using hpb))
      have O1 := own_block HO.out (fun g hg => m1.kp.block g (own_lt HO.out hg).2 (by have := gb.out g hg; simp; omega))
      have O2 := own_block O1 (fun g hg => (Kp.drew [] w1).block g (own_lt O1 hg).2 (by simp))
      have Q1 := own_block HQ.out (fun g hg => m1.kp.block g (own_lt HQ.out hg).2 (by have := gh.out g hg; simp; omega))
      have Q2 := hid (own_block Q1 (fun g hg => (Kp.drew [] w1).block g (own_lt Q1 hg).2 (by simp)))
      have hcv := conv_row O2
      have B2 := hid (B1.out.keep (Kp.drew [] w1) (by simp))
      have M2 := hid ((HM.out.trans m1).trans (Mv.drew b w1))
      have h2 := h1.drew
      have hkl : a ≤ src.size := by omega
      have wd := wrap_i64_nat a (by omega)
      have e1 : ((a + 1 : Nat) : Int) - 1 = (a : Int) := by omega
      have hS : (fun w' : World => w'.cell? ⟨b, 0, none⟩ = some (.string src) ∧ w'.cell? ⟨b, 1, none⟩ = some (.int .i64 ((a + 1 : Nat) : Int)) ∧ (convert 34 9 (.slice A5 acc.length cp5)).run Tryz.prog w' = .ok (.string (ba acc)) w') w1.drew := ⟨h2.c0, h2.c1, hcv⟩
      obtain ⟨a1, ha1⟩ : ∃ a1, a1 = a + 1 := ⟨_, rfl⟩
      rw [← ha1] at hS e1 h2
      have HA1 := hid ha1
      clear hcv O1 O2 HO h1 SH gb Q1 HX
      go_upto_region 9 with fail
      refine wp_region_T (fun w' : World => w'.cell? ⟨b, 0, none⟩ = some (.string src) ∧ w'.cell? ⟨b, 1, none⟩ = some (.int .i64 (a1 : Int)) ∧ (convert 34 9 (.slice A5 acc.length cp5)).run Tryz.prog w' = .ok (.string (ba acc)) w') 18 (by kernel_rfl) ?_
      clear ha1
      obtain ⟨w2, hw2⟩ : ∃ w2, w2 = w1.drew := ⟨_, rfl⟩
      rw [← hw2] at hS B2 M2 h2 Q2 ⊢
      clear hw2 B1
      refine wpAnyT_take (i := 0) (v := ?v0a) rfl (by kernel_rfl) (by kernel_rfl) (by kernel_rfl) (by kernel_rfl) (fun _ _ _ h => h) (Or.inl ⟨by rfl, ?y0a⟩) hS ?_
      case y0a => (intro w hSw; (try dsimp only at hSw); go_simp; (try with_reducible rfl))
      simp only [List.getElem_toArray, List.getElem_cons_zero, Act.put, List.setIfInBounds_toArray, List.set_cons_zero, List.set_cons_succ]
      refine wpAnyT_take (i := 1) (v := ?v1a) rfl (by kernel_rfl) (by kernel_rfl) (by kernel_rfl) (by kernel_rfl) (fun _ _ _ h => h) (Or.inl ⟨by rfl, ?y1a⟩) hS ?_
      case y1a => (intro w hSw; (try dsimp only at hSw); go_simp; (try with_reducible rfl))
      simp only [List.getElem_toArray, List.getElem_cons_succ, List.getElem_cons_zero, Act.put, List.setIfInBounds_toArray, List.set_cons_zero, List.set_cons_succ]
      refine wpAnyT_take (i := 2) (v := ?v2a) rfl (by kernel_rfl) (by kernel_rfl) (by kernel_rfl) (by kernel_rfl) (fun _ _ _ h => h) (Or.inl ⟨by rfl, ?y2a⟩) hS ?_
      case y2a => (intro w hSw; (try dsimp only at hSw); go_simp; (try with_reducible rfl))
      simp only [List.getElem_toArray, List.getElem_cons_succ, List.getElem_cons_zero, Act.put, List.setIfInBounds_toArray, List.set_cons_zero, List.set_cons_succ]
      refine wpAnyT_take (i := 3) (v := ?v3a) rfl (by kernel_rfl) (by kernel_rfl) (by kernel_rfl) (by kernel_rfl) (fun _ _ _ h => h) (Or.inl ⟨by rfl, ?y3a⟩) hS ?_
      case y3a => (intro w hSw; (try dsimp only at hSw); go_simp; (try with_reducible rfl))
      simp only [List.getElem_toArray, List.getElem_cons_succ, List.getElem_cons_zero, Act.put, List.setIfInBounds_toArray, List.set_cons_zero, List.set_cons_succ]
      refine wpAnyT_take (i := 4) (v := ?v4a) rfl (by kernel_rfl) (by kernel_rfl) (by kernel_rfl) (by kernel_rfl) (fun _ _ _ h => h) (Or.inl ⟨by rfl, ?y4a⟩) hS ?_
      case y4a => (intro w hSw; (try dsimp only at hSw); go_simp; (try with_reducible rfl))
      simp only [List.getElem_toArray, List.getElem_cons_succ, List.getElem_cons_zero, Act.put, List.setIfInBounds_toArray, List.set_cons_zero, List.set_cons_succ]
      refine wpAnyT_take (i := 5) (v := ?v5a) rfl (by kernel_rfl) (by kernel_rfl) (by kernel_rfl) (by kernel_rfl) (fun _ _ _ h => h) (Or.inl ⟨by rfl, ?y5a⟩) hS ?_
      case y5a => (intro w hSw; (try dsimp only at hSw); go_simp; (try with_reducible rfl))
      simp only [List.getElem_toArray, List.getElem_cons_succ, List.getElem_cons_zero, Act.put, List.setIfInBounds_toArray, List.set_cons_zero, List.set_cons_succ]
      refine wpAnyT_take (i := 6) (v := ?v6a) rfl (by kernel_rfl) (by kernel_rfl) (by kernel_rfl) (by kernel_rfl) (fun _ _ _ h => h) (Or.inl ⟨by rfl, ?y6a⟩) hS ?_
      case y6a => (intro w hSw; (try dsimp only at hSw); go_simp; (try with_reducible rfl))
      simp only [List.getElem_toArray, List.getElem_cons_succ, List.getElem_cons_zero, Act.put, List.setIfInBounds_toArray, List.set_cons_zero, List.set_cons_succ]
      refine wpAnyT_take (i := 7) (v := ?v7a) rfl (by kernel_rfl) (by kernel_rfl) (by kernel_rfl) (by kernel_rfl) (fun _ _ _ h => h) (Or.inl ⟨by rfl, ?y7a⟩) hS ?_
      case y7a => (intro w hSw; (try dsimp only at hSw); go_simp; (try with_reducible rfl))
      simp only [List.getElem_toArray, List.getElem_cons_succ, List.getElem_cons_zero, Act.put, List.setIfInBounds_toArray, List.set_cons_zero, List.set_cons_succ]
      refine wpAnyT_take (i := 8) (v := ?v8a) rfl (by kernel_rfl) (by kernel_rfl) (by kernel_rfl) (by kernel_rfl) (fun _ _ _ h => h) (Or.inl ⟨by rfl, ?y8a⟩) hS ?_
      case y8a => (intro w hSw; (try dsimp only at hSw); go_simp; (try with_reducible rfl))
      simp only [List.getElem_toArray, List.getElem_cons_succ, List.getElem_cons_zero, Act.put, List.setIfInBounds_toArray, List.set_cons_zero, List.set_cons_succ]
      refine wpAnyT_take (i := 9) (v := ?v9a) rfl (by kernel_rfl) (by kernel_rfl) (by kernel_rfl) (by kernel_rfl) (fun _ _ _ h => h) (Or.inl ⟨by rfl, ?y9a⟩) hS ?_
      case y9a => (intro w hSw; (try dsimp only at hSw); go_simp; (try with_reducible rfl))
      simp only [List.getElem_toArray, List.getElem_cons_succ, List.getElem_cons_zero, Act.put, List.setIfInBounds_toArray, List.set_cons_zero, List.set_cons_succ]
      refine wpAnyT_take (i := 10) (v := ?v10a) rfl (by kernel_rfl) (by kernel_rfl) (by kernel_rfl) (by kernel_rfl) (fun _ _ _ h => h) (Or.inl ⟨by rfl, ?y10a⟩) hS ?_
      case y10a => (intro w hSw; (try dsimp only at hSw); go_simp; (try with_reducible rfl))
      simp only [List.getElem_toArray, List.getElem_cons_succ, List.getElem_cons_zero, Act.put, List.setIfInBounds_toArray, List.set_cons_zero, List.set_cons_succ]
      refine wpAnyT_take (i := 11) (v := ?v11a) rfl (by kernel_rfl) (by kernel_rfl) (by kernel_rfl) (by kernel_rfl) (fun _ _ _ h => h) (Or.inl ⟨by rfl, ?y11a⟩) hS ?_
      case y11a => (intro w hSw; (try dsimp only at hSw); go_simp; (try with_reducible rfl))
      simp only [List.getElem_toArray, List.getElem_cons_succ, List.getElem_cons_zero, Act.put, List.setIfInBounds_toArray, List.set_cons_zero, List.set_cons_succ]
      refine wpAnyT_take (i := 12) (v := ?v12a) rfl (by kernel_rfl) (by kernel_rfl) (by kernel_rfl) (by kernel_rfl) (fun _ _ _ h => h) (Or.inl ⟨by rfl, ?y12a⟩) hS ?_
      case y12a => (intro w hSw; (try dsimp only at hSw); go_simp; (try with_reducible rfl))
      simp only [List.getElem_toArray, List.getElem_cons_succ, List.getElem_cons_zero, Act.put, List.setIfInBounds_toArray, List.set_cons_zero, List.set_cons_succ]
      refine wpAnyT_take (i := 13) (v := ?v13a) rfl (by kernel_rfl) (by kernel_rfl) (by kernel_rfl) (by kernel_rfl) (fun _ _ _ h => h) (Or.inl ⟨by rfl, ?y13a⟩) hS ?_
      case y13a => (intro w hSw; (try dsimp only at hSw); go_simp; (try with_reducible rfl))
      simp only [List.getElem_toArray, List.getElem_cons_succ, List.getElem_cons_zero, Act.put, List.setIfInBounds_toArray, List.set_cons_zero, List.set_cons_succ]
      refine wpAnyT_take (i := 14) (v := ?v14a) rfl (by kernel_rfl) (by kernel_rfl) (by kernel_rfl) (by kernel_rfl) (fun _ _ _ h => h) (Or.inl ⟨by rfl, ?y14a⟩) hS ?_
      case y14a => (intro w hSw; (try dsimp only at hSw); go_simp; (try with_reducible rfl))
      simp only [List.getElem_toArray, List.getElem_cons_succ, List.getElem_cons_zero, Act.put, List.setIfInBounds_toArray, List.set_cons_zero, List.set_cons_succ]
      refine wpAnyT_take (i := 15) (v := ?v15a) rfl (by kernel_rfl) (by kernel_rfl) (by kernel_rfl) (by kernel_rfl) (fun _ _ _ h => h) (Or.inl ⟨by rfl, ?y15a⟩) hS ?_
      case y15a => (intro w hSw; (try dsimp only at hSw); go_simp; (try with_reducible rfl))
      simp only [List.getElem_toArray, List.getElem_cons_succ, List.getElem_cons_zero, Act.put, List.setIfInBounds_toArray, List.set_cons_zero, List.set_cons_succ]
      refine wpAnyT_take (i := 16) (v := ?v16a) rfl (by kernel_rfl) (by kernel_rfl) (by kernel_rfl) (by kernel_rfl) (fun _ _ _ h => h) (Or.inl ⟨by rfl, ?y16a⟩) hS ?_
      case y16a => (intro w hSw; (try dsimp only at hSw); go_simp; (try with_reducible rfl))
      simp only [List.getElem_toArray, List.getElem_cons_succ, List.getElem_cons_zero, Act.put, List.setIfInBounds_toArray, List.set_cons_zero, List.set_cons_succ]
      refine wpAnyT_take (i := 17) (v := ?v17a) rfl (by kernel_rfl) (by kernel_rfl) (by kernel_rfl) (by kernel_rfl) (fun _ _ _ h => h) (Or.inl ⟨by rfl, ?y17a⟩) hS ?_
      case y17a => (intro w hSw; (try dsimp only at hSw); go_simp; (try with_reducible rfl))
      simp only [List.getElem_toArray, List.getElem_cons_succ, List.getElem_cons_zero, Act.put, List.setIfInBounds_toArray, List.set_cons_zero, List.set_cons_succ]
      refine wpAnyT_one (i := 18) (by kernel_rfl) rfl (fun K hK => ?_)
      have p0 := B2.out.at_ 0 _ rfl
      have p1 := B2.out.at_ 1 _ rfl
      have p2 := B2.out.at_ 2 _ rfl
      have q0 := B2.out.free 0
      have q1 := B2.out.free 1
      have q2 := B2.out.free 2
      go_simp
      refine hK.out _ _ (.inl rfl) ?_
      clear hK K p0 p1 p2 q0 q1 q2 hS
      refine wpAnyT_done (by kernel_rfl) ?_ _
      have B3 : Bl (((w2.setCell ⟨p, 0, none⟩ (.string (src.extract k a))).setCell ⟨p, 1, none⟩ (.string (ba acc))).setCell ⟨p, 2, none⟩ (.slice A6 hs.length cp6)) p [.string (src.extract k a), .string (ba acc), .slice A6 hs.length cp6] := ((B2.out.set 0 _ (by simp)).set 1 _ (by simp)).set 2 _ (by simp)
      have ks : Kp [p] w2 (((w2.setCell ⟨p, 0, none⟩ (.string (src.extract k a))).setCell ⟨p, 1, none⟩ (.string (ba acc))).setCell ⟨p, 2, none⟩ (.slice A6 hs.length cp6)) := (Kp.setCell _ _ (by simp)).trans ((Kp.setCell _ _ (by simp)).trans (Kp.setCell _ _ (by simp)))
      obtain ⟨w3, hw3⟩ : ∃ w3, w3 = ((w2.setCell ⟨p, 0, none⟩ (.string (src.extract k a))).setCell ⟨p, 1, none⟩ (.string (ba acc))).setCell ⟨p, 2, none⟩ (.slice A6 hs.length cp6) := ⟨_, rfl⟩
      rw [← hw3] at B3 ks ⊢
      clear hw3
      have p0 := B3.at_ 0 _ rfl
      have p1 := B3.at_ 1 _ rfl
      have p2 := B3.at_ 2 _ rfl
      go_wp2_with fail
      refine bodyPost_ret (res_row (p := 4) (ty := 94) (by rw [Tryz.results107]) _ _ p 0 rfl _ _ B3.range Tryz.underlying94 rfl (by rw [Tryz.szNew]; rfl)) rfl ⟨.slice A6 hs.length cp6, by rw [Nat.add_sub_cancel], ?_, ?_, M2.out.past ks hlt (fun q hq => by simp at hq; have := HP.out; omega)⟩
      · exact own_base (own_block Q2.out (fun g hg => ks.block g (own_lt Q2.out hg).2 (by rw [List.mem_singleton]; have := gh.out g hg; omega))) (by have := HP.out; omega)
      · rw [← HA1.out]
        exact h2.keep ks (by simpa using Ne.symm hpb)
    case false =>
      rw [h47, if_neg (by simp)] at hN
      have SH := hid (shut_v hrr hk h10 h47)
      clear h10 h47
      cases h38 : saw src a 38
      case true =>
        rw [h38, if_pos rfl] at hN
        have HN := hid hN
        have H38 := hid h38
        clear hN h38
        go_wp2_with fail
        refine SH.out.mono ?_
        rintro r w1 ⟨rfl, h1, m1⟩
        have h1 : Cur w1 b src a := h1
        go_wp2_with fail
        refine (hole_amp (G := G) h1 H38.out).mono ?_
        rintro r w3 ⟨rfl, h3, m2⟩
        have m12 := m1.trans m2
        have HO3 := hid (own_block HO.out (fun g hg => m12.kp.block g (own_lt HO.out hg).2 (by have := gb.out g hg; simp; omega)))
        have HQ3 := hid (own_block HQ.out (fun g hg => m12.kp.block g (own_lt HQ.out hg).2 (by have := gh.out g hg; simp; omega)))
        have HB2 := hid (HB.out.keep m12.kp (by simpa using hpb))
        have M13 := hid m12
        have hbs3 : Hid (wt.heap.size ≤ w3.heap.size) := hid (Nat.le_trans HS.out m12.kp.size)
        clear m12 m1 m2 h1
        go_wp2_with (at_builtin; refine wpList_app rfl _ _ 92 rfl wt.heap.size 152 j0 (.agg #[.int .i64 0, .int .i64 0]) 2 16 Tryz.underlying92 HJ.out.1 HJ.out.2.1 HJ.out.2.2.1 HJ.out.2.2.2 rfl (by decide) (.slice A6 hs.length cp6) hs.length (holeV hs) rfl (own_block HQ3.out (fun p hp => (Kp.alloc [] w3 _).block p (own_lt HQ3.out hp).2 (by simp))) ⟨w3.heap.size, 0, none⟩ 1 1 [.int .i64 (acc.length : Int), .int .i64 ((0 : Nat) : Int)] rfl rfl (fun j u hu => by rw [Addr.add_mid, Nat.zero_add]; exact (Bl.alloc w3 [.int .i64 (acc.length : Int), .int .i64 ((0 : Nat) : Int)] 152).at_ j u hu) (fun u hu => by simp at hu; rcases hu with rfl | rfl <;> rfl) (by unfold maxLen; omega) (by omega) (Nat.le_trans hbs3.out (Kp.alloc [] w3 _).size) (by omega) ?_; intro g4 cap4 w4 ho4 hg4 hor4)
        have ka := Kp.alloc [] w3 (.cells #[.int .i64 (acc.length : Int), .int .i64 ((0 : Nat) : Int)] 152)
        have kg : Kp (Value.slice A6 hs.length cp6).ownBlock.toList w3 w4 := (ka.mono (by simp)).trans (kp_of_grown (S := (Value.slice A6 hs.length cp6).ownBlock.toList) hg4 (fun q hq => by rw [hq]; simp))
        have gm : ∀ q, q ∈ (Value.slice A6 hs.length cp6).ownBlock.toList → wt.heap.size ≤ q := fun q hq => gh.out q (by simpa using hq)
        have hbw : wt.heap.size ≤ w4.heap.size := Nat.le_trans hbs3.out kg.size
        have hww : w.heap.size ≤ wt.heap.size := by have := HP.out; omega
        have h4 := h3.keep kg (fun q => by have := gm b q; omega)
        have P4 : Hid (Bl w4 p [.string ⟨#[]⟩, .string ⟨#[]⟩, .slice none 0 0]) := hid (HB2.out.keep kg (fun q => by have := gm p q; omega))
        have M4 : Hid (Mv b w w4) := hid ((HM.out.trans M13.out).past kg hlt (fun q hq => by have := gm q hq; omega))
        have Q4 : Hid (w4.ownsRow wt.heap.size 152 2 (.slice (some ⟨g4, 0, none⟩) (hs.length + 1) cap4) (hs ++ [(acc.length, 0)]).length (holeV (hs ++ [(acc.length, 0)]))) := hid (by
          rw [holeV_snoc, List.length_append]
          exact ho4)
        have O4 : Hid (w4.ownsRow wt.heap.size 5 1 (.slice A5 acc.length cp5) acc.length (Lib.byteCells acc)) := hid (own_block HO3.out (fun g hg => kg.block g (own_lt HO3.out hg).2 (fun q => HX.out g hg (by simpa using q))))
        have X4 : Hid (∀ g, (Value.slice A5 acc.length cp5).ownBlock = some g → (Value.slice (some ⟨g4, 0, none⟩) (hs.length + 1) cap4).ownBlock ≠ some g) := hid (fun g hg q => by
          injection q with q
          rcases hor4 with r | r
          · exact HX.out g hg (by rw [r]; exact congrArg some q)
          · have := (own_lt HO3.out hg).2
            have r2 := Nat.le_trans ka.size r
            have q : g4 = g := q
            omega)
        have HCA := hid (curAt_of h4)
        go_round
        case rel => exact ⟨a + 1, m, acc, _, by omega, h4, M4, P4, O4, Q4, X4, HN, hid hbw⟩
        case measure => rw [HCA.out, HAT.out]; omega
      case false =>
      rw [h38, if_neg (by simp)] at hN
      have H38 := hid h38
      clear h38
      cases h92 : saw src a 92
      case true =>
        rw [h92, if_pos rfl] at hN
        have h2k : a + 1 < src.size := by
          by_cases q : a + 1 < src.size
          · exact q
          · rw [dif_neg q] at hN; cases hN
        rw [dif_pos h2k] at hN
        have hdd : 49 ≤ (src[a + 1]).toNat ∧ (src[a + 1]).toNat ≤ 48 + G := by
          by_cases q : 49 ≤ (src[a + 1]).toNat ∧ (src[a + 1]).toNat ≤ 48 + G
          · exact q
          · rw [if_neg q] at hN; cases hN
        rw [if_pos hdd] at hN
        obtain ⟨d, hd⟩ : ∃ d, d = (src[a + 1]).toNat - 48 := ⟨_, rfl⟩
        rw [← hd] at hN
        have HN := hid hN
        have H92 := hid h92
        have HD := hid (And.intro hd hdd)
        clear hN h92 hd hdd
        go_wp2_with fail
        refine SH.out.mono ?_
        rintro r w1 ⟨rfl, h1, m1⟩
        have h1 : Cur w1 b src a := h1
        go_wp2_with fail
        refine (hole_digit (G := G) (d := d) h1 H92.out h2k (by have := HD.out; omega) (by have := HD.out; omega) (by have := HD.out; omega) hG).mono ?_
        rintro r w3 ⟨rfl, h3, m2⟩
        have m12 := m1.trans m2
        have HO3 := hid (own_block HO.out (fun g hg => m12.kp.block g (own_lt HO.out hg).2 (by have := gb.out g hg; simp; omega)))
        have HQ3 := hid (own_block HQ.out (fun g hg => m12.kp.block g (own_lt HQ.out hg).2 (by have := gh.out g hg; simp; omega)))
        have HB2 := hid (HB.out.keep m12.kp (by simpa using hpb))
        have M13 := hid m12
        have hbs3 : Hid (wt.heap.size ≤ w3.heap.size) := hid (Nat.le_trans HS.out m12.kp.size)
        clear m12 m1 m2 h1
        go_wp2_with (at_builtin; refine wpList_app rfl _ _ 92 rfl wt.heap.size 152 j0 (.agg #[.int .i64 0, .int .i64 0]) 2 16 Tryz.underlying92 HJ.out.1 HJ.out.2.1 HJ.out.2.2.1 HJ.out.2.2.2 rfl (by decide) (.slice A6 hs.length cp6) hs.length (holeV hs) rfl (own_block HQ3.out (fun p hp => (Kp.alloc [] w3 _).block p (own_lt HQ3.out hp).2 (by simp))) ⟨w3.heap.size, 0, none⟩ 1 1 [.int .i64 (acc.length : Int), .int .i64 (d : Int)] rfl rfl (fun j u hu => by rw [Addr.add_mid, Nat.zero_add]; exact (Bl.alloc w3 [.int .i64 (acc.length : Int), .int .i64 (d : Int)] 152).at_ j u hu) (fun u hu => by simp at hu; rcases hu with rfl | rfl <;> rfl) (by unfold maxLen; omega) (by omega) (Nat.le_trans hbs3.out (Kp.alloc [] w3 _).size) (by omega) ?_; intro g4 cap4 w4 ho4 hg4 hor4)
        have ka := Kp.alloc [] w3 (.cells #[.int .i64 (acc.length : Int), .int .i64 (d : Int)] 152)
        have kg : Kp (Value.slice A6 hs.length cp6).ownBlock.toList w3 w4 := (ka.mono (by simp)).trans (kp_of_grown (S := (Value.slice A6 hs.length cp6).ownBlock.toList) hg4 (fun q hq => by rw [hq]; simp))
        have gm : ∀ q, q ∈ (Value.slice A6 hs.length cp6).ownBlock.toList → wt.heap.size ≤ q := fun q hq => gh.out q (by simpa using hq)
        have hbw : wt.heap.size ≤ w4.heap.size := Nat.le_trans hbs3.out kg.size
        have hww : w.heap.size ≤ wt.heap.size := by have := HP.out; omega
        have h4 := h3.keep kg (fun q => by have := gm b q; omega)
        have P4 : Hid (Bl w4 p [.string ⟨#[]⟩, .string ⟨#[]⟩, .slice none 0 0]) := hid (HB2.out.keep kg (fun q => by have := gm p q; omega))
        have M4 : Hid (Mv b w w4) := hid ((HM.out.trans M13.out).past kg hlt (fun q hq => by have := gm q hq; omega))
        have Q4 : Hid (w4.ownsRow wt.heap.size 152 2 (.slice (some ⟨g4, 0, none⟩) (hs.length + 1) cap4) (hs ++ [(acc.length, d)]).length (holeV (hs ++ [(acc.length, d)]))) := hid (by
          rw [holeV_snoc, List.length_append]
          exact ho4)
        have O4 : Hid (w4.ownsRow wt.heap.size 5 1 (.slice A5 acc.length cp5) acc.length (Lib.byteCells acc)) := hid (own_block HO3.out (fun g hg => kg.block g (own_lt HO3.out hg).2 (fun q => HX.out g hg (by simpa using q))))
        have X4 : Hid (∀ g, (Value.slice A5 acc.length cp5).ownBlock = some g → (Value.slice (some ⟨g4, 0, none⟩) (hs.length + 1) cap4).ownBlock ≠ some g) := hid (fun g hg q => by
          injection q with q
          rcases hor4 with r | r
          · exact HX.out g hg (by rw [r]; exact congrArg some q)
          · have := (own_lt HO3.out hg).2
            have r2 := Nat.le_trans ka.size r
            have q : g4 = g := q
            omega)
        have HCA := hid (curAt_of h4)
        go_round
        case rel => exact ⟨a + 2, m, acc, _, by omega, h4, M4, P4, O4, Q4, X4, HN, hid hbw⟩
        case measure => rw [HCA.out, HAT.out]; omega
      case false =>
        rw [h92, if_neg (by simp)] at hN
        have H92 := hid h92
        have hle2 := newN_le hN
        rw [List.length_append] at hle2
        have HN := hid hN
        clear h92 hN hle2
        go_wp2_with fail
        refine SH.out.mono ?_
        rintro r w1 ⟨rfl, h1, m1⟩
        have h1 : Cur w1 b src a := h1
        go_wp2_with fail
        refine (hole_no (G := G) h1 H38.out H92.out).mono ?_
        rintro r w2 ⟨rfl, h2, m2⟩
        have m1 := m1.trans m2
        clear m2 h1
        go_wp2_with fail
        obtain ⟨x, hx⟩ : ∃ x, src[a] = x := ⟨_, rfl⟩
        rw [hx] at HN
        refine (part_v _ h2 hk hx H92.out).mono ?_
        rintro r w3 ⟨rfl, h3, m2⟩
        have m12 := m1.trans m2
        obtain ⟨y, hy⟩ : ∃ y : Nat, y = x.toNat := ⟨_, rfl⟩
        rw [← hy]
        have HY := hid hy
        have HO3 := hid (own_block HO.out (fun g hg => m12.kp.block g (own_lt HO.out hg).2 (by have := gb.out g hg; simp; omega)))
        have HQ3 := hid (own_block HQ.out (fun g hg => m12.kp.block g (own_lt HQ.out hg).2 (by have := gh.out g hg; simp; omega)))
        have HB2 := hid (HB.out.keep m12.kp (by simpa using hpb))
        have hsz : acc.length ≤ 2000 := by omega
        have M13 := hid m12
        have hbs3 : Hid (wt.heap.size ≤ w3.heap.size) := hid (Nat.le_trans HS.out m12.kp.size)
        clear hy m12 m1 m2 h2
        go_wp2_with (at_builtin; refine wpList_app rfl _ _ 34 rfl wt.heap.size 5 i0 (.int .u8 0) 1 1 Tryz.underlying34 HI.out.1 HI.out.2.1 HI.out.2.2.1 HI.out.2.2.2 rfl (by decide) (.slice A5 acc.length cp5) acc.length (Lib.byteCells acc) rfl (own_block HO3.out (fun p hp => (Kp.alloc [] w3 _).block p (own_lt HO3.out hp).2 (by simp))) ⟨w3.heap.size, 0, none⟩ 1 1 [.int .u8 y] rfl rfl (fun j u hu => by rw [Addr.add_mid, Nat.zero_add]; exact (Bl.alloc w3 [.int .u8 y] 5).at_ j u hu) (fun u hu => by simp at hu; subst hu; rfl) (by unfold maxLen; omega) (by omega) (Nat.le_trans hbs3.out (Kp.alloc [] w3 _).size) (by omega) ?_; intro g4 cap4 w4 ho4 hg4 hor4)
        have ka := Kp.alloc [] w3 (.cells #[.int .u8 y] 5)
        have kg : Kp (Value.slice A5 acc.length cp5).ownBlock.toList w3 w4 := (ka.mono (by simp)).trans (kp_of_grown (S := (Value.slice A5 acc.length cp5).ownBlock.toList) hg4 (fun q hq => by rw [hq]; simp))
        have gm : ∀ q, q ∈ (Value.slice A5 acc.length cp5).ownBlock.toList → wt.heap.size ≤ q := fun q hq => gb.out q (by simpa using hq)
        have hbw : wt.heap.size ≤ w4.heap.size := Nat.le_trans hbs3.out kg.size
        have hww : w.heap.size ≤ wt.heap.size := by have := HP.out; omega
        have h4 := h3.keep kg (fun q => by have := gm b q; omega)
        have P4 : Hid (Bl w4 p [.string ⟨#[]⟩, .string ⟨#[]⟩, .slice none 0 0]) := hid (HB2.out.keep kg (fun q => by have := gm p q; omega))
        have M4 : Hid (Mv b w w4) := hid ((HM.out.trans M13.out).past kg hlt (fun q hq => by have := gm q hq; omega))
        have O4 : Hid (w4.ownsRow wt.heap.size 5 1 (.slice (some ⟨g4, 0, none⟩) (acc.length + 1) cap4) (acc ++ [x]).length (Lib.byteCells (acc ++ [x]))) := hid (by
          have e1 : Lib.byteCells (acc ++ [x]) = Lib.byteCells acc ++ [.int .u8 y] := by rw [HY.out]; simp [Lib.byteCells]
          rw [e1, List.length_append]
          exact ho4)
        have Q4 : Hid (w4.ownsRow wt.heap.size 152 2 (.slice A6 hs.length cp6) hs.length (holeV hs)) := hid (own_block HQ3.out (fun g hg => kg.block g (own_lt HQ3.out hg).2 (fun q => HX.out g (by simpa using q) hg)))
        have X4 : Hid (∀ g, (Value.slice (some ⟨g4, 0, none⟩) (acc.length + 1) cap4).ownBlock = some g → (Value.slice A6 hs.length cp6).ownBlock ≠ some g) := hid (fun g q hg => by
          injection q with q
          rcases hor4 with r | r
          · exact HX.out g (by rw [r]; exact congrArg some q) hg
          · have := (own_lt HQ3.out hg).2
            have r2 := Nat.le_trans ka.size r
            have q : g4 = g := q
            omega)
        have HCA := hid (curAt_of h4)
        go_round
        case rel => exact ⟨a + 1, m, acc ++ [x], hs, by omega, h4, M4, P4, O4, Q4, X4, HN, hid hbw⟩
        case measure => rw [HCA.out, HAT.out]; omega
end
end Go.Proofs.YtonnimbcekhbgaaGreatDoor
