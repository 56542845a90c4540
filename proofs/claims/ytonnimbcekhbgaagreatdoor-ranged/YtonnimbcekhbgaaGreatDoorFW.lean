/- The script's reader: the bytes of y. -/
import Derived.Test.YtonnimbcekhbgaaGreatDoorFMToFV
import Derived.Test.YtonnimbcekhbgaaGreatDoorFA
namespace Go.Proofs.YtonnimbcekhbgaaGreatDoor
open Go.RowKit

/-- A table of 256 cells. -/
structure Arr (w : World) (t : Nat) (f : Nat → Value) : Prop where
  lt : t < w.heap.size
  at_ : ∀ j, j < 256 → w.cell? ⟨t, j, none⟩ = some (f j)
  free : ∀ j, w.frozen? ⟨t, j, none⟩ = false
theorem Arr.set {w : World} {t k : Nat} {v : Value} {f : Nat → Value} (h : Arr w t f) (hk : k < 256) : Arr (w.setCell ⟨t, k, none⟩ v) t (fun j => if j = k then v else f j) := by
  refine ⟨by simpa using h.lt, fun j hj => ?_, fun j => by simpa using h.free j⟩
  by_cases e : j = k
  · subst e
    rw [if_pos rfl]
    exact cell_same _ (h.at_ j hj)
  · rw [if_neg e]
    exact (cell_other _ (fun q => by injection q with _ q _; exact e q.symm)).trans (h.at_ j hj)
theorem Arr.keep {w w' : World} {t : Nat} {f : Nat → Value} {S : List Nat} (h : Arr w t f) (k : Kp S w w') (hn : t ∉ S) : Arr w' t f :=
  ⟨Nat.lt_of_lt_of_le h.lt k.size, fun j hj => (k.cell (p := ⟨t, j, none⟩) h.lt hn).trans (h.at_ j hj), fun j => (k.frozen (p := ⟨t, j, none⟩) h.lt hn).trans (h.free j)⟩
theorem Arr.mono {w : World} {t : Nat} {f g : Nat → Value} (h : Arr w t f) (e : ∀ j, j < 256 → f j = g j) : Arr w t g := ⟨h.lt, fun j hj => by rw [h.at_ j hj, e j hj], h.free⟩
theorem Arr.of (w : World) (u : Value) (ty : TypeId) : Arr (w.alloc (.cells (List.replicate 256 u).toArray ty)) w.heap.size (fun _ => u) := by
  have B := Bl.alloc w (List.replicate 256 u) ty
  exact ⟨B.lt, fun j hj => B.at_ j _ (by rw [List.getElem?_replicate, if_pos hj]), B.free⟩
theorem Tryz.szWritten : (Tryz.prog.info? 88).map (·.size) = some 2 := by kernel_rfl
theorem zeroB : Tryz.zeroCells156 = (List.replicate 256 (Value.bool false)).toArray := by kernel_rfl

/-- What came behind touched but these, and what is new. -/
theorem Kp.past {S T : List Nat} {w a c : World} (h : Kp S w a) (k : Kp T a c) (hT : ∀ x ∈ T, x ∈ S ∨ w.heap.size ≤ x) : Kp S w c :=
  ⟨k.os.trans h.os, k.tape.trans h.tape, k.output.trans h.output, Nat.le_trans h.size k.size, fun i hi hn => (k.block i (Nat.lt_of_lt_of_le hi h.size) (fun e => by
    rcases hT i e with q | q
    · exact hn q
    · omega)).trans (h.block i hi hn)⟩
theorem Mv.past {T : List Nat} {b : Nat} {w a c : World} (h : Mv b w a) (k : Kp T a c) (hb : b < w.heap.size) (hT : ∀ x ∈ T, w.heap.size ≤ x) : Mv b w c :=
  ⟨h.kp.past k (fun x hx => .inr (hT x hx)), fun j hj => (k.cell (p := ⟨b, j, none⟩) (Nat.lt_of_lt_of_le hb h.kp.size) (fun e => by have := hT b e; omega)).trans (h.same j hj)⟩

/-- The bytes up to the slash. -/
def byN (d : Bool) (s : ByteArray) : Nat → Nat → List UInt8 → Option (List UInt8 × Nat)
  | 0, _, _ => none
  | n + 1, k, acc => if h : k < s.size then
      if saw s k 10 then none else if saw s k 47 then some (acc, k + 1) else if saw s k 92 then none
      else if d && acc.contains s[k] then none else byN d s n (k + 1) (acc ++ [s[k]])
    else none
theorem byN_le {d : Bool} {s : ByteArray} : ∀ {n k : Nat} {acc L : List UInt8} {e : Nat}, byN d s n k acc = some (L, e) → k < e ∧ e ≤ s.size ∧ acc.length + (e - 1 - k) = L.length
  | 0, _, _, _, _, h => by cases h
  | n + 1, k, acc, L, e, h => by
    unfold byN at h
    split at h
    · rename_i hk
      split at h
      · cases h
      split at h
      · injection h with h
        injection h with h1 h2
        subst h1 h2
        exact ⟨by omega, by omega, by omega⟩
      split at h
      · cases h
      split at h
      · cases h
      have := byN_le h
      rw [List.length_append] at this
      simp at this
      exact ⟨by omega, by omega, by omega⟩
    · cases h

section
variable {w w' : World} {b k : Nat} {src : ByteArray}

set_option maxRecDepth 100000 in
set_option maxHeartbeats 4000000 in
theorem bytesFrom_v {n e : Nat} {L : List UInt8} (hr : Cur w b src k) (h : byN true src n k [] = some (L, e)) :
    Calls Tryz.prog 111 #[.pointer (some ⟨b, 0, none⟩)] w fun r w' => r = .returned (.agg #[.string (src.extract k (e - 1)), .string (ba L)]) ∧ Cur w' b src e ∧ Mv b w w' := by
  have hsm := hr.small
  have hlt := hr.lt
  have hLl := byN_le h
  rw [List.length_nil] at hLl
  have H := hid h
  clear h
  have c1 := hr.c1
  obtain ⟨i0, hi, hz0, hz1, hz2⟩ := info_parts Tryz.infoByte
  have HI := hid (And.intro hi (And.intro hz0 (And.intro hz1 hz2)))
  clear hi hz0 hz1 hz2
  go_enter Tryz.func111, Tryz.ntmps111
  have k1 := Kp.alloc [] w (.cells #[.string ⟨#[]⟩, .string ⟨#[]⟩] 88)
  have BP := Bl.alloc w [.string ⟨#[]⟩, .string ⟨#[]⟩] 88
  obtain ⟨p, hp⟩ : ∃ p, p = w.heap.size := ⟨_, rfl⟩
  obtain ⟨wp, hwp⟩ : ∃ wp, wp = w.alloc (.cells #[.string ⟨#[]⟩, .string ⟨#[]⟩] 88) := ⟨_, rfl⟩
  have hr1 := hr.keep k1 (by simp)
  have m1 : Mv b w wp := by rw [hwp]; exact ⟨k1.mono (by simp), fun j _ => k1.cell (p := ⟨b, j, none⟩) hlt (by simp)⟩
  have hpb : p ≠ b := by omega
  rw [← hp, ← hwp] at BP
  rw [← hwp] at k1 hr1
  have hpw : p < wp.heap.size := BP.lt
  have c1 := hr1.c1
  go_upto_region 2 with fail
  rw [← hp, ← hwp]
  have HP := hid hp
  clear hp hwp
  have k2 := Kp.alloc [] wp (.cells (List.replicate 256 (Value.bool false)).toArray 156)
  have A0 := Arr.of wp (.bool false) 156
  have hr2 := hr1.keep k2 (by simp)
  have B2 := BP.keep k2 (by simp)
  obtain ⟨t, ht⟩ : ∃ t, t = wp.heap.size := ⟨_, rfl⟩
  have m2 : Mv b w (wp.alloc (.cells (List.replicate 256 (Value.bool false)).toArray 156)) := m1.trans ⟨k2.mono (by simp), fun j _ => k2.cell (p := ⟨b, j, none⟩) hr1.lt (by simp)⟩
  obtain ⟨wt, hwt⟩ : ∃ wt, wt = wp.alloc (.cells (List.replicate 256 (Value.bool false)).toArray 156) := ⟨_, rfl⟩
  rw [← ht, ← hwt] at A0
  rw [← hwt] at hr2 B2 m2 k2
  have htp : p < t := by omega
  have HT := hid ht
  have htb : t ≠ b := by have := hr1.lt; omega
  have htl := A0.lt
  have hbs := hid (Nat.le_refl wt.heap.size)
  have HTL := hid htl
  clear c1 k1 k2 m1 BP hr1 hr htl
  go_upto_region 3 with fail
  rw [zeroB, ← ht, ← hwt]
  clear ht hwt
  go_wp2_with fail
  go_loopw [5, 6, 7] (fun v _ _ wr => ∃ a m acc, k ≤ a ∧ Cur wr b src a ∧ Hid (Mv b w wr) ∧ Hid (Bl wr p [.string ⟨#[]⟩, .string ⟨#[]⟩]) ∧ Hid (Arr wr t (fun j => .bool (acc.contains j.toUInt8))) ∧ Hid (wr.ownsRow wt.heap.size 5 1 v acc.length (Lib.byteCells acc)) ∧ Hid (byN true src m a acc = some (L, e)) ∧ Hid (wt.heap.size ≤ wr.heap.size)) (fun _ _ _ wr => 3000 - curAt wr b)
  case atStart => exact ⟨k, n, [], Nat.le_refl _, hr2, hid m2, hid B2, hid A0, hid ⟨rfl, .inl ⟨rfl, rfl⟩⟩, H, hbs⟩
  case round =>
    clear hr2 m2 B2 A0 H hbs
    obtain ⟨a, m, acc, hka, hrr, HM, HB, HA, HO, HN, HS⟩ := hrel
    have HAT := hid (curAt_of hrr)
    match m, HN with
    | 0, HN => cases HN.out
    | m + 1, HN =>
    have hN := HN.out
    have hle := byN_le hN
    unfold byN at hN
    clear HN
    have hk : a < src.size := by omega
    rw [dif_pos hk] at hN
    cases h10 : saw src a 10
    case true => rw [h10] at hN; cases hN
    rw [h10, if_neg (by simp)] at hN
    cases h47 : saw src a 47
    case true =>
      rw [h47, if_pos rfl] at hN
      injection hN with hN
      injection hN with e1 e2
      subst e1 e2
      have SH := hid (shut_v hrr hk h10 h47)
      clear h10 h47 hle
      go_wp2_with fail
      refine SH.out.mono ?_
      rintro r w1 ⟨rfl, h1, m1⟩
      have c0 := h1.c0
      have c1 := h1.c1
      have B1 := hid (HB.out.keep m1.kp (by simpa using hpb))
      have gb : ∀ g, u5.ownBlock = some g → wt.heap.size ≤ g := fun g hg => (own_lt HO.out hg).1
      have hbl : b < wt.heap.size := by have := HP.out; have := HTL.out; omega
      have O1 := own_block HO.out (fun g hg => m1.kp.block g (own_lt HO.out hg).2 (by have := gb g hg; simp; omega))
      have O2 := own_block O1 (fun g hg => (Kp.drew [] w1).block g (own_lt O1 hg).2 (by simp))
      have hcv := conv_row O2
      have B2 := hid (B1.out.keep (Kp.drew [] w1) (by simp))
      have M2 := hid ((HM.out.trans m1).trans (Mv.drew b w1))
      have h2 := h1.drew
      have hkl : a ≤ src.size := by omega
      have wd := wrap_i64_nat a (by omega)
      have e1 : ((a + 1 : Nat) : Int) - 1 = (a : Int) := by omega
      have hS : (fun w' : World => w'.cell? ⟨b, 0, none⟩ = some (.string src) ∧ w'.cell? ⟨b, 1, none⟩ = some (.int .i64 ((a + 1 : Nat) : Int)) ∧ (convert 34 9 u5).run Tryz.prog w' = .ok (.string (ba acc)) w') w1.drew := ⟨h2.c0, h2.c1, hcv⟩
      obtain ⟨a1, ha1⟩ : ∃ a1, a1 = a + 1 := ⟨_, rfl⟩
      rw [← ha1] at hS e1 h2
      have HA1 := hid ha1
      clear c0 c1 hcv O1 O2 HA HO h1 SH
      go_upto_region 12 with fail
      refine wp_region_T (fun w' : World => w'.cell? ⟨b, 0, none⟩ = some (.string src) ∧ w'.cell? ⟨b, 1, none⟩ = some (.int .i64 (a1 : Int)) ∧ (convert 34 9 u5).run Tryz.prog w' = .ok (.string (ba acc)) w') 16 (by kernel_rfl) ?_
      clear ha1
      obtain ⟨w2, hw2⟩ : ∃ w2, w2 = w1.drew := ⟨_, rfl⟩
      rw [← hw2] at hS B2 M2 h2 ⊢
      clear hw2 B1
      refine wpAnyT_take (i := 0) (v := ?v0) rfl (by kernel_rfl) (by kernel_rfl) (by kernel_rfl) (by kernel_rfl) (fun _ _ _ h => h) (Or.inl ⟨by rfl, ?y0⟩) hS ?_
      case y0 => (intro w hSw; (try dsimp only at hSw); go_simp; (try with_reducible rfl))
      simp only [List.getElem_toArray, List.getElem_cons_zero, Act.put, List.setIfInBounds_toArray, List.set_cons_zero, List.set_cons_succ]
      refine wpAnyT_take (i := 1) (v := ?v1) rfl (by kernel_rfl) (by kernel_rfl) (by kernel_rfl) (by kernel_rfl) (fun _ _ _ h => h) (Or.inl ⟨by rfl, ?y1⟩) hS ?_
      case y1 => (intro w hSw; (try dsimp only at hSw); go_simp; (try with_reducible rfl))
      simp only [List.getElem_toArray, List.getElem_cons_succ, List.getElem_cons_zero, Act.put, List.setIfInBounds_toArray, List.set_cons_zero, List.set_cons_succ]
      refine wpAnyT_take (i := 2) (v := ?v2) rfl (by kernel_rfl) (by kernel_rfl) (by kernel_rfl) (by kernel_rfl) (fun _ _ _ h => h) (Or.inl ⟨by rfl, ?y2⟩) hS ?_
      case y2 => (intro w hSw; (try dsimp only at hSw); go_simp; (try with_reducible rfl))
      simp only [List.getElem_toArray, List.getElem_cons_succ, List.getElem_cons_zero, Act.put, List.setIfInBounds_toArray, List.set_cons_zero, List.set_cons_succ]
      refine wpAnyT_take (i := 3) (v := ?v3) rfl (by kernel_rfl) (by kernel_rfl) (by kernel_rfl) (by kernel_rfl) (fun _ _ _ h => h) (Or.inl ⟨by rfl, ?y3⟩) hS ?_
      case y3 => (intro w hSw; (try dsimp only at hSw); go_simp; (try with_reducible rfl))
      simp only [List.getElem_toArray, List.getElem_cons_succ, List.getElem_cons_zero, Act.put, List.setIfInBounds_toArray, List.set_cons_zero, List.set_cons_succ]
      refine wpAnyT_take (i := 4) (v := ?v4) rfl (by kernel_rfl) (by kernel_rfl) (by kernel_rfl) (by kernel_rfl) (fun _ _ _ h => h) (Or.inl ⟨by rfl, ?y4⟩) hS ?_
      case y4 => (intro w hSw; (try dsimp only at hSw); go_simp; (try with_reducible rfl))
      simp only [List.getElem_toArray, List.getElem_cons_succ, List.getElem_cons_zero, Act.put, List.setIfInBounds_toArray, List.set_cons_zero, List.set_cons_succ]
      refine wpAnyT_take (i := 5) (v := ?v5) rfl (by kernel_rfl) (by kernel_rfl) (by kernel_rfl) (by kernel_rfl) (fun _ _ _ h => h) (Or.inl ⟨by rfl, ?y5⟩) hS ?_
      case y5 => (intro w hSw; (try dsimp only at hSw); go_simp; (try with_reducible rfl))
      simp only [List.getElem_toArray, List.getElem_cons_succ, List.getElem_cons_zero, Act.put, List.setIfInBounds_toArray, List.set_cons_zero, List.set_cons_succ]
      refine wpAnyT_take (i := 6) (v := ?v6) rfl (by kernel_rfl) (by kernel_rfl) (by kernel_rfl) (by kernel_rfl) (fun _ _ _ h => h) (Or.inl ⟨by rfl, ?y6⟩) hS ?_
      case y6 => (intro w hSw; (try dsimp only at hSw); go_simp; (try with_reducible rfl))
      simp only [List.getElem_toArray, List.getElem_cons_succ, List.getElem_cons_zero, Act.put, List.setIfInBounds_toArray, List.set_cons_zero, List.set_cons_succ]
      refine wpAnyT_take (i := 7) (v := ?v7) rfl (by kernel_rfl) (by kernel_rfl) (by kernel_rfl) (by kernel_rfl) (fun _ _ _ h => h) (Or.inl ⟨by rfl, ?y7⟩) hS ?_
      case y7 => (intro w hSw; (try dsimp only at hSw); go_simp; (try with_reducible rfl))
      simp only [List.getElem_toArray, List.getElem_cons_succ, List.getElem_cons_zero, Act.put, List.setIfInBounds_toArray, List.set_cons_zero, List.set_cons_succ]
      refine wpAnyT_take (i := 8) (v := ?v8) rfl (by kernel_rfl) (by kernel_rfl) (by kernel_rfl) (by kernel_rfl) (fun _ _ _ h => h) (Or.inl ⟨by rfl, ?y8⟩) hS ?_
      case y8 => (intro w hSw; (try dsimp only at hSw); go_simp; (try with_reducible rfl))
      simp only [List.getElem_toArray, List.getElem_cons_succ, List.getElem_cons_zero, Act.put, List.setIfInBounds_toArray, List.set_cons_zero, List.set_cons_succ]
      refine wpAnyT_take (i := 9) (v := ?v9) rfl (by kernel_rfl) (by kernel_rfl) (by kernel_rfl) (by kernel_rfl) (fun _ _ _ h => h) (Or.inl ⟨by rfl, ?y9⟩) hS ?_
      case y9 => (intro w hSw; (try dsimp only at hSw); go_simp; (try with_reducible rfl))
      simp only [List.getElem_toArray, List.getElem_cons_succ, List.getElem_cons_zero, Act.put, List.setIfInBounds_toArray, List.set_cons_zero, List.set_cons_succ]
      refine wpAnyT_take (i := 10) (v := ?v10) rfl (by kernel_rfl) (by kernel_rfl) (by kernel_rfl) (by kernel_rfl) (fun _ _ _ h => h) (Or.inl ⟨by rfl, ?y10⟩) hS ?_
      case y10 => (intro w hSw; (try dsimp only at hSw); go_simp; (try with_reducible rfl))
      simp only [List.getElem_toArray, List.getElem_cons_succ, List.getElem_cons_zero, Act.put, List.setIfInBounds_toArray, List.set_cons_zero, List.set_cons_succ]
      refine wpAnyT_take (i := 11) (v := ?v11) rfl (by kernel_rfl) (by kernel_rfl) (by kernel_rfl) (by kernel_rfl) (fun _ _ _ h => h) (Or.inl ⟨by rfl, ?y11⟩) hS ?_
      case y11 => (intro w hSw; (try dsimp only at hSw); go_simp; (try with_reducible rfl))
      simp only [List.getElem_toArray, List.getElem_cons_succ, List.getElem_cons_zero, Act.put, List.setIfInBounds_toArray, List.set_cons_zero, List.set_cons_succ]
      refine wpAnyT_take (i := 12) (v := ?v12) rfl (by kernel_rfl) (by kernel_rfl) (by kernel_rfl) (by kernel_rfl) (fun _ _ _ h => h) (Or.inl ⟨by rfl, ?y12⟩) hS ?_
      case y12 => (intro w hSw; (try dsimp only at hSw); go_simp; (try with_reducible rfl))
      simp only [List.getElem_toArray, List.getElem_cons_succ, List.getElem_cons_zero, Act.put, List.setIfInBounds_toArray, List.set_cons_zero, List.set_cons_succ]
      refine wpAnyT_take (i := 13) (v := ?v13) rfl (by kernel_rfl) (by kernel_rfl) (by kernel_rfl) (by kernel_rfl) (fun _ _ _ h => h) (Or.inl ⟨by rfl, ?y13⟩) hS ?_
      case y13 => (intro w hSw; (try dsimp only at hSw); go_simp; (try with_reducible rfl))
      simp only [List.getElem_toArray, List.getElem_cons_succ, List.getElem_cons_zero, Act.put, List.setIfInBounds_toArray, List.set_cons_zero, List.set_cons_succ]
      refine wpAnyT_take (i := 14) (v := ?v14) rfl (by kernel_rfl) (by kernel_rfl) (by kernel_rfl) (by kernel_rfl) (fun _ _ _ h => h) (Or.inl ⟨by rfl, ?y14⟩) hS ?_
      case y14 => (intro w hSw; (try dsimp only at hSw); go_simp; (try with_reducible rfl))
      simp only [List.getElem_toArray, List.getElem_cons_succ, List.getElem_cons_zero, Act.put, List.setIfInBounds_toArray, List.set_cons_zero, List.set_cons_succ]
      refine wpAnyT_take (i := 15) (v := ?v15) rfl (by kernel_rfl) (by kernel_rfl) (by kernel_rfl) (by kernel_rfl) (fun _ _ _ h => h) (Or.inl ⟨by rfl, ?y15⟩) hS ?_
      case y15 => (intro w hSw; (try dsimp only at hSw); go_simp; (try with_reducible rfl))
      simp only [List.getElem_toArray, List.getElem_cons_succ, List.getElem_cons_zero, Act.put, List.setIfInBounds_toArray, List.set_cons_zero, List.set_cons_succ]
      refine wpAnyT_one (i := 16) (by kernel_rfl) rfl (fun K hK => ?_)
      have p0 := B2.out.at_ 0 _ rfl
      have p1 := B2.out.at_ 1 _ rfl
      have q0 := B2.out.free 0
      have q1 := B2.out.free 1
      go_simp
      refine hK.out _ _ (.inl rfl) ?_
      clear hK K p0 p1 q0 q1 hS
      refine wpAnyT_done (by kernel_rfl) ?_ _
      have B3 : Bl ((w2.setCell ⟨p, 0, none⟩ (.string (src.extract k a))).setCell ⟨p, 1, none⟩ (.string (ba acc))) p [.string (src.extract k a), .string (ba acc)] := (B2.out.set 0 _ (by simp)).set 1 _ (by simp)
      have ks : Kp [p] w2 ((w2.setCell ⟨p, 0, none⟩ (.string (src.extract k a))).setCell ⟨p, 1, none⟩ (.string (ba acc))) := (Kp.setCell _ _ (by simp)).trans (Kp.setCell _ _ (by simp))
      obtain ⟨w3, hw3⟩ : ∃ w3, w3 = (w2.setCell ⟨p, 0, none⟩ (.string (src.extract k a))).setCell ⟨p, 1, none⟩ (.string (ba acc)) := ⟨_, rfl⟩
      rw [← hw3] at B3 ks ⊢
      clear hw3
      have p0 := B3.at_ 0 _ rfl
      have p1 := B3.at_ 1 _ rfl
      go_wp2_with fail
      refine bodyPost_ret (res_row (p := 2) (ty := 88) (by rw [Tryz.results111]) _ _ p 0 rfl _ _ B3.range Tryz.underlying88 rfl (by rw [Tryz.szWritten]; rfl)) rfl ⟨by rw [Nat.add_sub_cancel], ?_, M2.out.past ks hlt (fun q hq => by simp at hq; have := HP.out; omega)⟩
      rw [← HA1.out]
      exact h2.keep ks (by simpa using Ne.symm hpb)
    case false =>
      rw [h47, if_neg (by simp)] at hN
      cases h92 : saw src a 92
      case true => rw [h92] at hN; cases hN
      rw [h92, if_neg (by simp)] at hN
      cases hct : acc.contains src[a]
      case true => rw [hct] at hN; cases hN
      rw [hct, if_neg (by simp)] at hN
      have SH := hid (shut_v hrr hk h10 h47)
      have H92 := hid h92
      have HN := hid hN
      have HC := hid hct
      clear h10 h47 h92 hN hct
      go_wp2_with fail
      refine SH.out.mono ?_
      rintro r w1 ⟨rfl, h1, m1⟩
      have c1 := h1.c1
      go_wp2_with fail
      obtain ⟨x, hx⟩ : ∃ x, src[a] = x := ⟨_, rfl⟩
      rw [hx] at HN HC
      refine (part_v _ h1 hk hx H92.out).mono ?_
      rintro r w2 ⟨rfl, h2, m2⟩
      have m12 := m1.trans m2
      have HA2 := hid (HA.out.keep m12.kp (by simpa using htb))
      have HB2 := hid (HB.out.keep m12.kp (by simpa using hpb))
      have hx256 : x.toNat < 256 := UInt8.toNat_lt _
      have hcx := HA2.out.at_ x.toNat hx256
      rw [show x.toNat.toUInt8 = x from UInt8.toNat_inj.1 (by simp), HC.out] at hcx
      have hfx := HA2.out.free x.toNat
      obtain ⟨y, hy⟩ : ∃ y : Nat, y = x.toNat := ⟨_, rfl⟩
      rw [← hy] at hcx hfx hx256
      rw [← hy]
      have HY := hid hy
      have gb : ∀ g, u5.ownBlock = some g → wt.heap.size ≤ g := fun g hg => (own_lt HO.out hg).1
      have htl := HTL.out
      have hbl : b < wt.heap.size := by have := HP.out; omega
      have HO2 := hid (own_block HO.out (fun g hg => m12.kp.block g (own_lt HO.out hg).2 (by have := gb g hg; simp; omega)))
      have ks : Kp [t] w2 (w2.setCell ⟨t, y, none⟩ (.bool true)) := Kp.setCell _ _ (by simp)
      have HO3 := hid (own_block HO2.out (fun g hg => ks.block g (own_lt HO2.out hg).2 (by have := gb g hg; simp; omega)))
      obtain ⟨w3, hw3⟩ : ∃ w3, w3 = w2.setCell ⟨t, y, none⟩ (.bool true) := ⟨_, rfl⟩
      rw [← hw3] at ks HO3
      have h3 : Cur w3 b src (a + 1) := h2.keep ks (by simpa using Ne.symm htb)
      have HA3 : Hid (Arr w3 t (fun j => .bool ((acc ++ [x]).contains j.toUInt8))) := hid (by
        rw [hw3]
        refine (HA2.out.set hx256).mono (fun j hj => ?_)
        by_cases ej : j = y
        · rw [if_pos ej, ej, HY.out, show x.toNat.toUInt8 = x from UInt8.toNat_inj.1 (by simp)]
          simp
        · rw [if_neg ej]
          have hne : ¬ (UInt8.ofNat j = x) := fun q => ej (by rw [HY.out, ← q, UInt8.toNat_ofNat_of_lt' (by simpa using hj)])
          simp [hne])
      have hsz : acc.length ≤ 2000 := by omega
      clear hy
      go_upto_region 11 with fail
      rw [← hw3]
      have HW3 := hid hw3
      have M13 := hid m12
      have HKS := hid ks
      have hbs3 : Hid (wt.heap.size ≤ w3.heap.size) := hid (Nat.le_trans HS.out (Nat.le_trans m12.kp.size ks.size))
      clear hw3 hcx hfx ks m12 m1 m2 h1 h2 c1
      go_wp2_with (at_builtin; refine wpList_app rfl _ _ 34 rfl wt.heap.size 5 i0 (.int .u8 0) 1 1 Tryz.underlying34 HI.out.1 HI.out.2.1 HI.out.2.2.1 HI.out.2.2.2 rfl (by decide) u5 acc.length (Lib.byteCells acc) rfl (own_block HO3.out (fun p hp => (Kp.alloc [] w3 _).block p (own_lt HO3.out hp).2 (by simp))) ⟨w3.heap.size, 0, none⟩ 1 1 [.int .u8 y] rfl rfl (fun j u hu => by rw [Addr.add_mid, Nat.zero_add]; exact (Bl.alloc w3 [.int .u8 y] 5).at_ j u hu) (fun u hu => by simp at hu; subst hu; rfl) (by unfold maxLen; omega) (by omega) (Nat.le_trans hbs3.out (Kp.alloc [] w3 _).size) (by omega) ?_; intro g4 cap4 w4 ho4 hg4 hor4)
      have ka := Kp.alloc [] w3 (.cells #[.int .u8 y] 5)
      have kg : Kp u5.ownBlock.toList w3 w4 := (ka.mono (by simp)).trans (kp_of_grown (S := u5.ownBlock.toList) hg4 (fun q hq => by rw [hq]; simp))
      have gm : ∀ q, q ∈ u5.ownBlock.toList → wt.heap.size ≤ q := fun q hq => gb q (by simpa using hq)
      have hbw : wt.heap.size ≤ w4.heap.size := Nat.le_trans hbs3.out kg.size
      have htw : w.heap.size ≤ t := by have := HP.out; omega
      have hww : w.heap.size ≤ wt.heap.size := by omega
      have HKG := hid kg
      have h4 := h3.keep kg (fun q => by have := gm b q; omega)
      have P4 : Hid (Bl w4 p [.string ⟨#[]⟩, .string ⟨#[]⟩]) := hid ((HB2.out.keep HKS.out (by simp; omega)).keep kg (fun q => by have := gm p q; omega))
      have A4 := hid (HA3.out.keep kg (fun q => by have := gm t q; omega))
      have M4 : Hid (Mv b w w4) := hid (((HM.out.trans M13.out).past HKS.out hlt (fun q hq => by simp at hq; omega)).past kg hlt (fun q hq => by have := gm q hq; omega))
      have O4 : Hid (w4.ownsRow wt.heap.size 5 1 (.slice (some ⟨g4, 0, none⟩) (acc.length + 1) cap4) (acc ++ [x]).length (Lib.byteCells (acc ++ [x]))) := hid (by
        have e1 : Lib.byteCells (acc ++ [x]) = Lib.byteCells acc ++ [.int .u8 y] := by rw [HY.out]; simp [Lib.byteCells]
        rw [e1, List.length_append]
        exact ho4)
      have HCA := hid (curAt_of h4)
      go_round
      case rel => exact ⟨a + 1, m, acc ++ [x], by omega, h4, M4, P4, A4, O4, HN, hid hbw⟩
      case measure => rw [HCA.out, HAT.out]; omega

set_option maxRecDepth 100000 in
set_option maxHeartbeats 4000000 in
theorem bytesTo_v {n e : Nat} {L : List UInt8} (hr : Cur w b src k) (h : byN false src n k [] = some (L, e)) :
    Calls Tryz.prog 112 #[.pointer (some ⟨b, 0, none⟩), .int .i64 L.length] w fun r w' => r = .returned (.agg #[.string (src.extract k (e - 1)), .string (ba L)]) ∧ Cur w' b src e ∧ Mv b w w' := by
  have hsm := hr.small
  have hlt := hr.lt
  have hLl := byN_le h
  rw [List.length_nil] at hLl
  have H := hid h
  clear h
  obtain ⟨i0, hi, hz0, hz1, hz2⟩ := info_parts Tryz.infoByte
  have HI := hid (And.intro hi (And.intro hz0 (And.intro hz1 hz2)))
  clear hi hz0 hz1 hz2
  have k1 := Kp.alloc [] w (.cells #[.string ⟨#[]⟩, .string ⟨#[]⟩] 88)
  have BP := Bl.alloc w [.string ⟨#[]⟩, .string ⟨#[]⟩] 88
  obtain ⟨p, hp⟩ : ∃ p, p = w.heap.size := ⟨_, rfl⟩
  obtain ⟨wt, hwp⟩ : ∃ wt, wt = w.alloc (.cells #[.string ⟨#[]⟩, .string ⟨#[]⟩] 88) := ⟨_, rfl⟩
  have hr2 := hr.keep k1 (by simp)
  have m2 : Mv b w wt := by rw [hwp]; exact ⟨k1.mono (by simp), fun j _ => k1.cell (p := ⟨b, j, none⟩) hlt (by simp)⟩
  have hpb : p ≠ b := by omega
  rw [← hp, ← hwp] at BP
  rw [← hwp] at k1 hr2
  have hpw : p < wt.heap.size := BP.lt
  have c1 := hr.c1
  go_enter Tryz.func112, Tryz.ntmps112
  go_upto_region 1 with fail
  rw [← hp, ← hwp]
  have HP := hid hp
  clear hp hwp c1
  have c1 := hr2.c1
  have hbs := hid (Nat.le_refl wt.heap.size)
  have B2 := BP
  clear k1 hr BP
  go_wp2_with fail
  go_loopw [6] (fun v wr => ∃ a m acc, k ≤ a ∧ Cur wr b src a ∧ Hid (Mv b w wr) ∧ Hid (Bl wr p [.string ⟨#[]⟩, .string ⟨#[]⟩]) ∧ Hid (wr.ownsRow wt.heap.size 5 1 v acc.length (Lib.byteCells acc)) ∧ Hid (byN false src m a acc = some (L, e)) ∧ Hid (wt.heap.size ≤ wr.heap.size)) (fun _ wr => 3000 - curAt wr b)
  case atStart => exact ⟨k, n, [], Nat.le_refl _, hr2, hid m2, hid B2, hid ⟨rfl, .inl ⟨rfl, rfl⟩⟩, H, hbs⟩
  case round =>
    clear hr2 m2 B2 H hbs c1
    obtain ⟨a, m, acc, hka, hrr, HM, HB, HO, HN, HS⟩ := hrel
    have HAT := hid (curAt_of hrr)
    match m, HN with
    | 0, HN => cases HN.out
    | m + 1, HN =>
    have hN := HN.out
    have hle := byN_le hN
    unfold byN at hN
    clear HN
    have hk : a < src.size := by omega
    rw [dif_pos hk] at hN
    obtain ⟨A5, cp5, e5, _, _⟩ := own_form HO.out
    subst e5
    cases h10 : saw src a 10
    case true => rw [h10] at hN; cases hN
    rw [h10, if_neg (by simp)] at hN
    cases h47 : saw src a 47
    case true =>
      rw [h47, if_pos rfl] at hN
      injection hN with hN
      injection hN with e1 e2
      subst e1 e2
      have SH := hid (shut_v hrr hk h10 h47)
      clear h10 h47 hle
      go_wp2_with fail
      refine SH.out.mono ?_
      rintro r w1 ⟨rfl, h1, m1⟩
      have B1 := hid (HB.out.keep m1.kp (by simpa using hpb))
      have gb : ∀ g, (Value.slice A5 acc.length cp5).ownBlock = some g → wt.heap.size ≤ g := fun g hg => (own_lt HO.out hg).1
      have hbl : b < wt.heap.size := by have := HP.out; omega
      have O1 := own_block HO.out (fun g hg => m1.kp.block g (own_lt HO.out hg).2 (by have := gb g hg; simp; omega))
      have O2 := own_block O1 (fun g hg => (Kp.drew [] w1).block g (own_lt O1 hg).2 (by simp))
      have hcv := conv_row O2
      have B2 := hid (B1.out.keep (Kp.drew [] w1) (by simp))
      have M2 := hid ((HM.out.trans m1).trans (Mv.drew b w1))
      have h2 := h1.drew
      have hkl : a ≤ src.size := by omega
      have wd := wrap_i64_nat a (by omega)
      have e1 : ((a + 1 : Nat) : Int) - 1 = (a : Int) := by omega
      have hS : (fun w' : World => w'.cell? ⟨b, 0, none⟩ = some (.string src) ∧ w'.cell? ⟨b, 1, none⟩ = some (.int .i64 ((a + 1 : Nat) : Int)) ∧ (convert 34 9 (.slice A5 acc.length cp5)).run Tryz.prog w' = .ok (.string (ba acc)) w') w1.drew := ⟨h2.c0, h2.c1, hcv⟩
      obtain ⟨a1, ha1⟩ : ∃ a1, a1 = a + 1 := ⟨_, rfl⟩
      rw [← ha1] at hS e1 h2
      have HA1 := hid ha1
      clear hcv O1 O2 HO h1 SH gb
      go_upto_region 10 with fail
      refine wp_region_T (fun w' : World => w'.cell? ⟨b, 0, none⟩ = some (.string src) ∧ w'.cell? ⟨b, 1, none⟩ = some (.int .i64 (a1 : Int)) ∧ (convert 34 9 (.slice A5 acc.length cp5)).run Tryz.prog w' = .ok (.string (ba acc)) w') 16 (by kernel_rfl) ?_
      clear ha1
      obtain ⟨w2, hw2⟩ : ∃ w2, w2 = w1.drew := ⟨_, rfl⟩
      rw [← hw2] at hS B2 M2 h2 ⊢
      clear hw2 B1
      refine wpAnyT_take (i := 0) (v := ?v0) rfl (by kernel_rfl) (by kernel_rfl) (by kernel_rfl) (by kernel_rfl) (fun _ _ _ h => h) (Or.inl ⟨by rfl, ?y0⟩) hS ?_
      case y0 => (intro w hSw; (try dsimp only at hSw); go_simp; (try with_reducible rfl))
      simp only [List.getElem_toArray, List.getElem_cons_zero, Act.put, List.setIfInBounds_toArray, List.set_cons_zero, List.set_cons_succ]
      refine wpAnyT_take (i := 1) (v := ?v1) rfl (by kernel_rfl) (by kernel_rfl) (by kernel_rfl) (by kernel_rfl) (fun _ _ _ h => h) (Or.inl ⟨by rfl, ?y1⟩) hS ?_
      case y1 => (intro w hSw; (try dsimp only at hSw); go_simp; (try with_reducible rfl))
      simp only [List.getElem_toArray, List.getElem_cons_succ, List.getElem_cons_zero, Act.put, List.setIfInBounds_toArray, List.set_cons_zero, List.set_cons_succ]
      refine wpAnyT_take (i := 2) (v := ?v2) rfl (by kernel_rfl) (by kernel_rfl) (by kernel_rfl) (by kernel_rfl) (fun _ _ _ h => h) (Or.inl ⟨by rfl, ?y2⟩) hS ?_
      case y2 => (intro w hSw; (try dsimp only at hSw); go_simp; (try with_reducible rfl))
      simp only [List.getElem_toArray, List.getElem_cons_succ, List.getElem_cons_zero, Act.put, List.setIfInBounds_toArray, List.set_cons_zero, List.set_cons_succ]
      refine wpAnyT_take (i := 3) (v := ?v3) rfl (by kernel_rfl) (by kernel_rfl) (by kernel_rfl) (by kernel_rfl) (fun _ _ _ h => h) (Or.inl ⟨by rfl, ?y3⟩) hS ?_
      case y3 => (intro w hSw; (try dsimp only at hSw); go_simp; (try with_reducible rfl))
      simp only [List.getElem_toArray, List.getElem_cons_succ, List.getElem_cons_zero, Act.put, List.setIfInBounds_toArray, List.set_cons_zero, List.set_cons_succ]
      refine wpAnyT_take (i := 4) (v := ?v4) rfl (by kernel_rfl) (by kernel_rfl) (by kernel_rfl) (by kernel_rfl) (fun _ _ _ h => h) (Or.inl ⟨by rfl, ?y4⟩) hS ?_
      case y4 => (intro w hSw; (try dsimp only at hSw); go_simp; (try with_reducible rfl))
      simp only [List.getElem_toArray, List.getElem_cons_succ, List.getElem_cons_zero, Act.put, List.setIfInBounds_toArray, List.set_cons_zero, List.set_cons_succ]
      refine wpAnyT_take (i := 5) (v := ?v5) rfl (by kernel_rfl) (by kernel_rfl) (by kernel_rfl) (by kernel_rfl) (fun _ _ _ h => h) (Or.inl ⟨by rfl, ?y5⟩) hS ?_
      case y5 => (intro w hSw; (try dsimp only at hSw); go_simp; (try with_reducible rfl))
      simp only [List.getElem_toArray, List.getElem_cons_succ, List.getElem_cons_zero, Act.put, List.setIfInBounds_toArray, List.set_cons_zero, List.set_cons_succ]
      refine wpAnyT_take (i := 6) (v := ?v6) rfl (by kernel_rfl) (by kernel_rfl) (by kernel_rfl) (by kernel_rfl) (fun _ _ _ h => h) (Or.inl ⟨by rfl, ?y6⟩) hS ?_
      case y6 => (intro w hSw; (try dsimp only at hSw); go_simp; (try with_reducible rfl))
      simp only [List.getElem_toArray, List.getElem_cons_succ, List.getElem_cons_zero, Act.put, List.setIfInBounds_toArray, List.set_cons_zero, List.set_cons_succ]
      refine wpAnyT_take (i := 7) (v := ?v7) rfl (by kernel_rfl) (by kernel_rfl) (by kernel_rfl) (by kernel_rfl) (fun _ _ _ h => h) (Or.inl ⟨by rfl, ?y7⟩) hS ?_
      case y7 => (intro w hSw; (try dsimp only at hSw); go_simp; (try with_reducible rfl))
      simp only [List.getElem_toArray, List.getElem_cons_succ, List.getElem_cons_zero, Act.put, List.setIfInBounds_toArray, List.set_cons_zero, List.set_cons_succ]
      refine wpAnyT_take (i := 8) (v := ?v8) rfl (by kernel_rfl) (by kernel_rfl) (by kernel_rfl) (by kernel_rfl) (fun _ _ _ h => h) (Or.inl ⟨by rfl, ?y8⟩) hS ?_
      case y8 => (intro w hSw; (try dsimp only at hSw); go_simp; (try with_reducible rfl))
      simp only [List.getElem_toArray, List.getElem_cons_succ, List.getElem_cons_zero, Act.put, List.setIfInBounds_toArray, List.set_cons_zero, List.set_cons_succ]
      refine wpAnyT_take (i := 9) (v := ?v9) rfl (by kernel_rfl) (by kernel_rfl) (by kernel_rfl) (by kernel_rfl) (fun _ _ _ h => h) (Or.inl ⟨by rfl, ?y9⟩) hS ?_
      case y9 => (intro w hSw; (try dsimp only at hSw); go_simp; (try with_reducible rfl))
      simp only [List.getElem_toArray, List.getElem_cons_succ, List.getElem_cons_zero, Act.put, List.setIfInBounds_toArray, List.set_cons_zero, List.set_cons_succ]
      refine wpAnyT_take (i := 10) (v := ?v10) rfl (by kernel_rfl) (by kernel_rfl) (by kernel_rfl) (by kernel_rfl) (fun _ _ _ h => h) (Or.inl ⟨by rfl, ?y10⟩) hS ?_
      case y10 => (intro w hSw; (try dsimp only at hSw); go_simp; (try with_reducible rfl))
      simp only [List.getElem_toArray, List.getElem_cons_succ, List.getElem_cons_zero, Act.put, List.setIfInBounds_toArray, List.set_cons_zero, List.set_cons_succ]
      refine wpAnyT_take (i := 11) (v := ?v11) rfl (by kernel_rfl) (by kernel_rfl) (by kernel_rfl) (by kernel_rfl) (fun _ _ _ h => h) (Or.inl ⟨by rfl, ?y11⟩) hS ?_
      case y11 => (intro w hSw; (try dsimp only at hSw); go_simp; (try with_reducible rfl))
      simp only [List.getElem_toArray, List.getElem_cons_succ, List.getElem_cons_zero, Act.put, List.setIfInBounds_toArray, List.set_cons_zero, List.set_cons_succ]
      refine wpAnyT_take (i := 12) (v := ?v12) rfl (by kernel_rfl) (by kernel_rfl) (by kernel_rfl) (by kernel_rfl) (fun _ _ _ h => h) (Or.inl ⟨by rfl, ?y12⟩) hS ?_
      case y12 => (intro w hSw; (try dsimp only at hSw); go_simp; (try with_reducible rfl))
      simp only [List.getElem_toArray, List.getElem_cons_succ, List.getElem_cons_zero, Act.put, List.setIfInBounds_toArray, List.set_cons_zero, List.set_cons_succ]
      refine wpAnyT_take (i := 13) (v := ?v13) rfl (by kernel_rfl) (by kernel_rfl) (by kernel_rfl) (by kernel_rfl) (fun _ _ _ h => h) (Or.inl ⟨by rfl, ?y13⟩) hS ?_
      case y13 => (intro w hSw; (try dsimp only at hSw); go_simp; (try with_reducible rfl))
      simp only [List.getElem_toArray, List.getElem_cons_succ, List.getElem_cons_zero, Act.put, List.setIfInBounds_toArray, List.set_cons_zero, List.set_cons_succ]
      refine wpAnyT_take (i := 14) (v := ?v14) rfl (by kernel_rfl) (by kernel_rfl) (by kernel_rfl) (by kernel_rfl) (fun _ _ _ h => h) (Or.inl ⟨by rfl, ?y14⟩) hS ?_
      case y14 => (intro w hSw; (try dsimp only at hSw); go_simp; (try with_reducible rfl))
      simp only [List.getElem_toArray, List.getElem_cons_succ, List.getElem_cons_zero, Act.put, List.setIfInBounds_toArray, List.set_cons_zero, List.set_cons_succ]
      refine wpAnyT_take (i := 15) (v := ?v15) rfl (by kernel_rfl) (by kernel_rfl) (by kernel_rfl) (by kernel_rfl) (fun _ _ _ h => h) (Or.inl ⟨by rfl, ?y15⟩) hS ?_
      case y15 => (intro w hSw; (try dsimp only at hSw); go_simp; (try with_reducible rfl))
      simp only [List.getElem_toArray, List.getElem_cons_succ, List.getElem_cons_zero, Act.put, List.setIfInBounds_toArray, List.set_cons_zero, List.set_cons_succ]
      refine wpAnyT_one (i := 16) (by kernel_rfl) rfl (fun K hK => ?_)
      have p0 := B2.out.at_ 0 _ rfl
      have p1 := B2.out.at_ 1 _ rfl
      have q0 := B2.out.free 0
      have q1 := B2.out.free 1
      go_simp
      refine hK.out _ _ (.inl rfl) ?_
      clear hK K p0 p1 q0 q1 hS
      refine wpAnyT_done (by kernel_rfl) ?_ _
      have B3 : Bl ((w2.setCell ⟨p, 0, none⟩ (.string (src.extract k a))).setCell ⟨p, 1, none⟩ (.string (ba acc))) p [.string (src.extract k a), .string (ba acc)] := (B2.out.set 0 _ (by simp)).set 1 _ (by simp)
      have ks : Kp [p] w2 ((w2.setCell ⟨p, 0, none⟩ (.string (src.extract k a))).setCell ⟨p, 1, none⟩ (.string (ba acc))) := (Kp.setCell _ _ (by simp)).trans (Kp.setCell _ _ (by simp))
      obtain ⟨w3, hw3⟩ : ∃ w3, w3 = (w2.setCell ⟨p, 0, none⟩ (.string (src.extract k a))).setCell ⟨p, 1, none⟩ (.string (ba acc)) := ⟨_, rfl⟩
      rw [← hw3] at B3 ks ⊢
      clear hw3
      have p0 := B3.at_ 0 _ rfl
      have p1 := B3.at_ 1 _ rfl
      go_wp2_with fail
      refine bodyPost_ret (res_row (p := 4) (ty := 88) (by rw [Tryz.results112]) _ _ p 0 rfl _ _ B3.range Tryz.underlying88 rfl (by rw [Tryz.szWritten]; rfl)) rfl ⟨by rw [Nat.add_sub_cancel], ?_, M2.out.past ks hlt (fun q hq => by simp at hq; have := HP.out; omega)⟩
      rw [← HA1.out]
      exact h2.keep ks (by simpa using Ne.symm hpb)
    case false =>
      rw [h47, if_neg (by simp)] at hN
      cases h92 : saw src a 92
      case true => rw [h92] at hN; cases hN
      rw [h92, if_neg (by simp), Bool.false_and, if_neg (by simp)] at hN
      have SH := hid (shut_v hrr hk h10 h47)
      have H92 := hid h92
      have hle2 := byN_le hN
      rw [List.length_append] at hle2
      have hnc : acc.length < L.length := by simp at hle2; omega
      have hne : ((acc.length : Int) == (L.length : Int)) = false := by rw [beq_eq_false_iff_ne]; omega
      have HN := hid hN
      clear h10 h47 h92 hN hle2
      go_wp2_with fail
      refine SH.out.mono ?_
      rintro r w1 ⟨rfl, h1, m1⟩
      have h1 : Cur w1 b src a := h1
      go_wp2_with fail
      obtain ⟨x, hx⟩ : ∃ x, src[a] = x := ⟨_, rfl⟩
      rw [hx] at HN
      refine (part_v _ h1 hk hx H92.out).mono ?_
      rintro r w3 ⟨rfl, h3, m2⟩
      have m12 := m1.trans m2
      obtain ⟨y, hy⟩ : ∃ y : Nat, y = x.toNat := ⟨_, rfl⟩
      rw [← hy]
      have HY := hid hy
      have gb : ∀ g, (Value.slice A5 acc.length cp5).ownBlock = some g → wt.heap.size ≤ g := fun g hg => (own_lt HO.out hg).1
      have hbl : b < wt.heap.size := by have := HP.out; omega
      have HO3 := hid (own_block HO.out (fun g hg => m12.kp.block g (own_lt HO.out hg).2 (by have := gb g hg; simp; omega)))
      have HB2 := hid (HB.out.keep m12.kp (by simpa using hpb))
      have hsz : acc.length ≤ 2000 := by omega
      have M13 := hid m12
      have hbs3 : Hid (wt.heap.size ≤ w3.heap.size) := hid (Nat.le_trans HS.out m12.kp.size)
      have GB := hid gb
      clear hy m12 m1 m2 h1 gb
      go_wp2_with (at_builtin; refine wpList_app rfl _ _ 34 rfl wt.heap.size 5 i0 (.int .u8 0) 1 1 Tryz.underlying34 HI.out.1 HI.out.2.1 HI.out.2.2.1 HI.out.2.2.2 rfl (by decide) (.slice A5 acc.length cp5) acc.length (Lib.byteCells acc) rfl (own_block HO3.out (fun p hp => (Kp.alloc [] w3 _).block p (own_lt HO3.out hp).2 (by simp))) ⟨w3.heap.size, 0, none⟩ 1 1 [.int .u8 y] rfl rfl (fun j u hu => by rw [Addr.add_mid, Nat.zero_add]; exact (Bl.alloc w3 [.int .u8 y] 5).at_ j u hu) (fun u hu => by simp at hu; subst hu; rfl) (by unfold maxLen; omega) (by omega) (Nat.le_trans hbs3.out (Kp.alloc [] w3 _).size) (by omega) ?_; intro g4 cap4 w4 ho4 hg4 hor4)
      have ka := Kp.alloc [] w3 (.cells #[.int .u8 y] 5)
      have kg : Kp (Value.slice A5 acc.length cp5).ownBlock.toList w3 w4 := (ka.mono (by simp)).trans (kp_of_grown (S := (Value.slice A5 acc.length cp5).ownBlock.toList) hg4 (fun q hq => by rw [hq]; simp))
      have gm : ∀ q, q ∈ (Value.slice A5 acc.length cp5).ownBlock.toList → wt.heap.size ≤ q := fun q hq => GB.out q (by simpa using hq)
      have hbw : wt.heap.size ≤ w4.heap.size := Nat.le_trans hbs3.out kg.size
      have hww : w.heap.size ≤ wt.heap.size := by have := HP.out; omega
      have h4 := h3.keep kg (fun q => by have := gm b q; omega)
      have P4 : Hid (Bl w4 p [.string ⟨#[]⟩, .string ⟨#[]⟩]) := hid (HB2.out.keep kg (fun q => by have := gm p q; omega))
      have M4 : Hid (Mv b w w4) := hid ((HM.out.trans M13.out).past kg hlt (fun q hq => by have := gm q hq; omega))
      have O4 : Hid (w4.ownsRow wt.heap.size 5 1 (.slice (some ⟨g4, 0, none⟩) (acc.length + 1) cap4) (acc ++ [x]).length (Lib.byteCells (acc ++ [x]))) := hid (by
        have e1 : Lib.byteCells (acc ++ [x]) = Lib.byteCells acc ++ [.int .u8 y] := by rw [HY.out]; simp [Lib.byteCells]
        rw [e1, List.length_append]
        exact ho4)
      have HCA := hid (curAt_of h4)
      go_round
      case rel => exact ⟨a + 1, m, acc ++ [x], by omega, h4, M4, P4, O4, HN, hid hbw⟩
      case measure => rw [HCA.out, HAT.out]; omega
end
end Go.Proofs.YtonnimbcekhbgaaGreatDoor
