/- One text out of several: KE KG KH. -/
import Derived.Test.YtonnimbcekhbgaaGreatDoorFNToFX
import Derived.Test.YtonnimbcekhbgaaGreatDoorIToK
import Derived.Test.YtonnimbcekhbgaaGreatDoorKC
import Derived.Test.YtonnimbcekhbgaaGreatDoorLD
import Derived.Test.YtonnimbcekhbgaaGreatDoorEVToEW
import Derived.Test.YtonnimbcekhbgaaGreatDoorKBToKF

/- The script's reader: a pattern between slashes. -/
namespace Go.Proofs.YtonnimbcekhbgaaGreatDoor
open Go.RowKit

/-- Where a pattern's slash is passed. -/
def ptN (s : ByteArray) : Nat → Nat → Option Nat
  | 0, _ => none
  | n + 1, k => if k < s.size then
      if saw s k 10 then none else if saw s k 47 then some (k + 1)
      else if saw s k 92 then (if k + 1 < s.size ∧ saw s (k + 1) 10 = false then ptN s n (k + 2) else none) else ptN s n (k + 1)
    else none
theorem ptN_le {s : ByteArray} : ∀ {n k e : Nat}, ptN s n k = some e → k < e ∧ e ≤ s.size
  | 0, _, _, h => by cases h
  | n + 1, k, e, h => by
    unfold ptN at h
    split at h
    · split at h
      · cases h
      split at h
      · injection h with h
        omega
      split at h
      · split at h
        · have := ptN_le h; omega
        · cases h
      · have := ptN_le h; omega
    · cases h

/-- A pattern of these instructions lies there. -/
abbrev PatQ (n : Nat) (bg : Int) (groups deepest : Nat) (xs : List Value) : Nat → World → Prop := fun pb w => PtR 0 w pb n bg groups deepest xs
theorem PtR.bears {B : Nat} {w : World} {p n groups deepest : Nat} {begin : Int} {xs : List Value} (h : PtR B w p n begin groups deepest xs) : ∃ g o1 o2, w.heap[p]? = some o1 ∧ w.heap[g]? = some o2 ∧ B ≤ p ∧ B ≤ g ∧ Bears (PatQ n begin groups deepest xs) p g o1 o2 := by
  obtain ⟨g, c, h1, h2⟩ := h.code
  have hg := own_lt h2 (g := g) rfl
  obtain ⟨o1, e1⟩ : ∃ o, w.heap[p]? = some o := ⟨_, Array.getElem?_eq_getElem h.lt⟩
  obtain ⟨o2, e2⟩ : ∃ o, w.heap[g]? = some o := ⟨_, Array.getElem?_eq_getElem hg.2⟩
  refine ⟨g, o1, o2, e1, e2, h.lo, hg.1, fun w2 q1 q2 => ?_⟩
  have k1 : w2.heap[p]? = w.heap[p]? := q1.trans e1.symm
  have k2 : w2.heap[g]? = w.heap[g]? := q2.trans e2.symm
  refine ⟨Nat.zero_le _, lt_blk q1, ⟨g, c, (World.cell?_of_block k1).trans h1, ownsRow_lower (own_block h2 (fun k hk => ?_)) (Nat.zero_le _)⟩, (World.cell?_of_block k1).trans h.c1, (World.cell?_of_block k1).trans h.c2, (World.cell?_of_block k1).trans h.c3⟩
  have : g = k := by simpa [Value.ownBlock] using hk
  subst this
  exact k2

theorem Tryz.szPattern : (Tryz.prog.info? 91).map (·.size) = some 2 := by kernel_rfl
section
variable {w w' : World} {b k : Nat} {src : ByteArray}

set_option maxRecDepth 100000 in
set_option maxHeartbeats 4000000 in
theorem pattern_v {m e n groups deepest : Nat} {bg : Int} {xs : List Value} (h47 : saw src k 47 = true) (hp : ptN src m (k + 1) = some e) (hl : e - 1 ≤ 100 + (k + 1)) (hn : 0 < n) (hR : Reads (src.extract 0 (e - 1)) (k + 1) groups n bg deepest xs) :
    PatOk src k e (PatQ n bg groups deepest xs) (src.extract (k + 1) (e - 1)) := by
  intro w b hr
  have hsm := hr.small
  have hlt := hr.lt
  have hle := ptN_le hp
  have H := hid hp
  have HR := hid hR
  clear hp hR
  have k1 := Kp.alloc [] w (.cells #[.pointer none, .string ⟨#[]⟩] 91)
  have BP := Bl.alloc w [.pointer none, .string ⟨#[]⟩] 91
  obtain ⟨p, hp⟩ : ∃ p, p = w.heap.size := ⟨_, rfl⟩
  obtain ⟨wt, hwp⟩ : ∃ wt, wt = w.alloc (.cells #[.pointer none, .string ⟨#[]⟩] 91) := ⟨_, rfl⟩
  have hr1 := hr.keep k1 (by simp)
  have m1 : Mv b w wt := by rw [hwp]; exact ⟨k1.mono (by simp), fun j _ => k1.cell (p := ⟨b, j, none⟩) hlt (by simp)⟩
  have hpb : p ≠ b := by omega
  rw [← hp, ← hwp] at BP
  rw [← hwp] at k1 hr1
  have hpw : p < wt.heap.size := BP.lt
  go_enter Tryz.func106, Tryz.ntmps106
  go_upto_region 1 with fail
  rw [← hp, ← hwp]
  have HP := hid hp
  clear hp hwp
  go_wp2_with fail
  refine (expect_v 47 hr1 h47).mono ?_
  rintro r w2 ⟨rfl, hr2, m2⟩
  have B2 := BP.keep m2.kp (by simpa using hpb)
  have m02 := m1.trans m2
  have c1 := hr2.c1
  clear k1 hr BP hr1 h47 m1 m2
  obtain ⟨f, hf⟩ : ∃ f, f = k + 1 := ⟨_, rfl⟩
  rw [← hf] at c1 hr2 H hle HR hl
  have HF := hid hf
  clear hf
  go_wp2_with fail
  go_loopw [14] (fun _ wr => ∃ a m, f ≤ a ∧ Cur wr b src a ∧ Hid (Mv b w wr) ∧ Hid (Bl wr p [.pointer none, .string ⟨#[]⟩]) ∧ Hid (ptN src m a = some e)) (fun _ wr => 3000 - curAt wr b)
  case atStart => exact ⟨f, m, Nat.le_refl _, hr2, hid m02, hid B2, H⟩
  case round =>
    clear hr2 m02 B2 H c1
    obtain ⟨a, m, hfa, hrr, HM, HB, HN⟩ := hrel
    have HAT := hid (curAt_of hrr)
    match m, HN with
    | 0, HN => cases HN.out
    | m + 1, HN =>
    have hN := HN.out
    have hle := ptN_le hN
    unfold ptN at hN
    clear HN
    have hk : a < src.size := by omega
    rw [if_pos hk] at hN
    cases h10 : saw src a 10
    case true => rw [h10] at hN; cases hN
    rw [h10, if_neg (by simp)] at hN
    cases h47 : saw src a 47
    case true =>
      rw [h47, if_pos rfl] at hN
      injection hN with e2
      subst e2
      have SH := hid (shut_v hrr hk h10 h47)
      clear h10 h47 hle
      go_wp2_with fail
      refine SH.out.mono ?_
      rintro r w1 ⟨rfl, h1, m1⟩
      have h1 : Cur w1 b src (a + 1) := h1
      have c1 := h1.c1
      have hkl : a ≤ src.size := by omega
      have wd := wrap_i64_nat a (by omega)
      have e1 : ((a + 1 : Nat) : Int) - 1 = (a : Int) := by omega
      obtain ⟨a1, ha1⟩ : ∃ a1, a1 = a + 1 := ⟨_, rfl⟩
      rw [← ha1] at c1 h1 e1
      have B1 := hid (HB.out.keep m1.kp (by simpa using hpb))
      have M1 := hid (HM.out.trans m1)
      have HA1 := hid ha1
      clear ha1 m1 hrr HM HB
      go_upto_region 8 with fail
      have HRR := HR.out
      rw [Nat.add_sub_cancel] at HRR
      have hsz : (src.extract 0 a).size = a := by rw [ByteArray.size_extract]; omega
      have RD := hid (read_gen (w := w1.drew) ⟨by have := h1.lt; show 0 < w1.heap.size; omega⟩ (by omega) (by omega) (by omega) hn HRR)
      have h2 := h1.drew
      have hS : (fun w' : World => w'.cell? ⟨b, 0, none⟩ = some (.string src)) w1.drew := h2.c0
      have B2 := hid (B1.out.keep (Kp.drew [] w1) (by simp))
      have M2 := hid (M1.out.trans (Mv.drew b w1))
      clear c1 HRR hsz
      refine wp_region_T (fun w' : World => w'.cell? ⟨b, 0, none⟩ = some (.string src)) 18 (by kernel_rfl) ?_
      obtain ⟨w2, hw2⟩ : ∃ w2, w2 = w1.drew := ⟨_, rfl⟩
      rw [← hw2] at hS B2 M2 h2 RD ⊢
      clear hw2 B1 M1
      refine wpAnyT_take (i := 0) (v := ?v0) rfl (by kernel_rfl) (by kernel_rfl) (by kernel_rfl) (by kernel_rfl) (fun _ _ _ h => h) (Or.inl ⟨by rfl, ?y0⟩) hS ?_
      case y0 => (intro w hSw; (try dsimp only at hSw); go_simp; (try with_reducible rfl))
      simp only [List.getElem_toArray, List.getElem_cons_zero, Act.put, List.setIfInBounds_toArray, List.set_cons_zero, List.set_cons_succ]
      refine wpAnyT_take (i := 1) (v := ?v1) rfl (by kernel_rfl) (by kernel_rfl) (by kernel_rfl) (by kernel_rfl) (fun _ _ _ h => h) (Or.inl ⟨by rfl, ?y1⟩) hS ?_
      case y1 => (intro w hSw; (try dsimp only at hSw); go_simp; (try with_reducible rfl))
      simp only [List.getElem_toArray, List.getElem_cons_succ, List.getElem_cons_zero, Act.put, List.setIfInBounds_toArray, List.set_cons_zero, List.set_cons_succ]
      refine wpAnyT_take (i := 2) (v := ?v2) rfl (by kernel_rfl) (by kernel_rfl) (by kernel_rfl) (by kernel_rfl) (fun _ _ _ h => h) (Or.inl ⟨by rfl, ?y2⟩) hS ?_
      case y2 => (intro w hSw; (try dsimp only at hSw); go_simp; (try with_reducible rfl))
      simp only [List.getElem_toArray, List.getElem_cons_succ, List.getElem_cons_zero, Act.put, List.setIfInBounds_toArray, List.set_cons_zero, List.set_cons_succ]
      refine wpAnyT_take (i := 3) (v := ?v3) rfl (by kernel_rfl) (by kernel_rfl) (by kernel_rfl) (by kernel_rfl) (fun _ _ _ h => h) (Or.inl ⟨by rfl, ?y3⟩) hS ?_
      case y3 => (intro w hSw; (try dsimp only at hSw); go_simp; (try with_reducible rfl))
      simp only [List.getElem_toArray, List.getElem_cons_succ, List.getElem_cons_zero, Act.put, List.setIfInBounds_toArray, List.set_cons_zero, List.set_cons_succ]
      refine wpAnyT_take (i := 4) (v := ?v4) rfl (by kernel_rfl) (by kernel_rfl) (by kernel_rfl) (by kernel_rfl) (fun _ _ _ h => h) (Or.inl ⟨by rfl, ?y4⟩) hS ?_
      case y4 => (intro w hSw; (try dsimp only at hSw); go_simp; (try with_reducible rfl))
      simp only [List.getElem_toArray, List.getElem_cons_succ, List.getElem_cons_zero, Act.put, List.setIfInBounds_toArray, List.set_cons_zero, List.set_cons_succ]
      refine wpAnyT_take (i := 5) (v := ?v5) rfl (by kernel_rfl) (by kernel_rfl) (by kernel_rfl) (by kernel_rfl) (fun _ _ _ h => h) (Or.inl ⟨by rfl, ?y5⟩) hS ?_
      case y5 => (intro w hSw; (try dsimp only at hSw); go_simp; (try with_reducible rfl))
      simp only [List.getElem_toArray, List.getElem_cons_succ, List.getElem_cons_zero, Act.put, List.setIfInBounds_toArray, List.set_cons_zero, List.set_cons_succ]
      refine wpAnyT_take (i := 6) (v := ?v6) rfl (by kernel_rfl) (by kernel_rfl) (by kernel_rfl) (by kernel_rfl) (fun _ _ _ h => h) (Or.inl ⟨by rfl, ?y6⟩) hS ?_
      case y6 => (intro w hSw; (try dsimp only at hSw); go_simp; (try with_reducible rfl))
      simp only [List.getElem_toArray, List.getElem_cons_succ, List.getElem_cons_zero, Act.put, List.setIfInBounds_toArray, List.set_cons_zero, List.set_cons_succ]
      refine wpAnyT_take (i := 7) (v := ?v7) rfl (by kernel_rfl) (by kernel_rfl) (by kernel_rfl) (by kernel_rfl) (fun _ _ _ h => h) (Or.inl ⟨by rfl, ?y7⟩) hS ?_
      case y7 => (intro w hSw; (try dsimp only at hSw); go_simp; (try with_reducible rfl))
      simp only [List.getElem_toArray, List.getElem_cons_succ, List.getElem_cons_zero, Act.put, List.setIfInBounds_toArray, List.set_cons_zero, List.set_cons_succ]
      refine wpAnyT_take (i := 9) (v := ?v9) rfl (by kernel_rfl) (by kernel_rfl) (by kernel_rfl) (by kernel_rfl) (fun _ _ _ h => h) (Or.inl ⟨by rfl, ?y9⟩) hS ?_
      case y9 => (intro w hSw; (try dsimp only at hSw); go_simp; (try with_reducible rfl))
      simp only [List.getElem_toArray, List.getElem_cons_succ, List.getElem_cons_zero, Act.put, List.setIfInBounds_toArray, List.set_cons_zero, List.set_cons_succ]
      refine wpAnyT_take (i := 10) (v := ?v10) rfl (by kernel_rfl) (by kernel_rfl) (by kernel_rfl) (by kernel_rfl) (fun _ _ _ h => h) (Or.inl ⟨by rfl, ?y10⟩) hS ?_
      case y10 => (intro w hSw; (try dsimp only at hSw); go_simp; (try with_reducible rfl))
      simp only [List.getElem_toArray, List.getElem_cons_succ, List.getElem_cons_zero, Act.put, List.setIfInBounds_toArray, List.set_cons_zero, List.set_cons_succ]
      refine wpAnyT_take (i := 11) (v := ?v11) rfl (by kernel_rfl) (by kernel_rfl) (by kernel_rfl) (by kernel_rfl) (fun _ _ _ h => h) (Or.inl ⟨by rfl, ?y11⟩) hS ?_
      case y11 => (intro w hSw; (try dsimp only at hSw); go_simp; (try with_reducible rfl))
      simp only [List.getElem_toArray, List.getElem_cons_succ, List.getElem_cons_zero, Act.put, List.setIfInBounds_toArray, List.set_cons_zero, List.set_cons_succ]
      refine wpAnyT_take (i := 12) (v := ?v12) rfl (by kernel_rfl) (by kernel_rfl) (by kernel_rfl) (by kernel_rfl) (fun _ _ _ h => h) (Or.inl ⟨by rfl, ?y12⟩) hS ?_
      case y12 => (intro w hSw; (try dsimp only at hSw); go_simp; (try with_reducible rfl))
      simp only [List.getElem_toArray, List.getElem_cons_succ, List.getElem_cons_zero, Act.put, List.setIfInBounds_toArray, List.set_cons_zero, List.set_cons_succ]
      refine wpAnyT_take (i := 13) (v := ?v13) rfl (by kernel_rfl) (by kernel_rfl) (by kernel_rfl) (by kernel_rfl) (fun _ _ _ h => h) (Or.inl ⟨by rfl, ?y13⟩) hS ?_
      case y13 => (intro w hSw; (try dsimp only at hSw); go_simp; (try with_reducible rfl))
      simp only [List.getElem_toArray, List.getElem_cons_succ, List.getElem_cons_zero, Act.put, List.setIfInBounds_toArray, List.set_cons_zero, List.set_cons_succ]
      refine wpAnyT_take (i := 14) (v := ?v14) rfl (by kernel_rfl) (by kernel_rfl) (by kernel_rfl) (by kernel_rfl) (fun _ _ _ h => h) (Or.inl ⟨by rfl, ?y14⟩) hS ?_
      case y14 => (intro w hSw; (try dsimp only at hSw); go_simp; (try with_reducible rfl))
      simp only [List.getElem_toArray, List.getElem_cons_succ, List.getElem_cons_zero, Act.put, List.setIfInBounds_toArray, List.set_cons_zero, List.set_cons_succ]
      refine wpAnyT_take (i := 15) (v := ?v15) rfl (by kernel_rfl) (by kernel_rfl) (by kernel_rfl) (by kernel_rfl) (fun _ _ _ h => h) (Or.inl ⟨by rfl, ?y15⟩) hS ?_
      case y15 => (intro w hSw; (try dsimp only at hSw); go_simp; (try with_reducible rfl))
      simp only [List.getElem_toArray, List.getElem_cons_succ, List.getElem_cons_zero, Act.put, List.setIfInBounds_toArray, List.set_cons_zero, List.set_cons_succ]
      refine wpAnyT_take (i := 16) (v := ?v16) rfl (by kernel_rfl) (by kernel_rfl) (by kernel_rfl) (by kernel_rfl) (fun _ _ _ h => h) (Or.inl ⟨by rfl, ?y16⟩) hS ?_
      case y16 => (intro w hSw; (try dsimp only at hSw); go_simp; (try with_reducible rfl))
      simp only [List.getElem_toArray, List.getElem_cons_succ, List.getElem_cons_zero, Act.put, List.setIfInBounds_toArray, List.set_cons_zero, List.set_cons_succ]
      refine wpAnyT_one (i := 8) (by kernel_rfl) rfl (fun K hK => ?_)
      go_simp
      refine RD.out.mono ?_
      rintro r w3 ⟨pb, rfl, pt, k3⟩
      have hS3 : (fun w' : World => w'.cell? ⟨b, 0, none⟩ = some (.string src)) w3 := (h2.keep k3 (by simp)).c0
      have h3 := h2.keep k3 (by simp)
      have B3 := hid (B2.out.keep k3 (by simp))
      have M3 : Hid (Mv b w w3) := hid (M2.out.past k3 hlt (by simp))
      have HPT := hid pt
      have HZ : Hid (w.heap.size ≤ w2.heap.size) := hid M2.out.kp.size
      have HBL := hid B2.out.lt
      clear pt k3 h2 B2 M2
      dsimp only
      refine hK.out _ _ (.inr hS3) ?_
      clear hK K
      refine wpAnyT_one (i := 17) (by kernel_rfl) rfl (fun K hK => ?_)
      go_simp
      refine hK.out _ _ (.inr hS3) ?_
      clear hK K
      refine wpAnyT_one (i := 18) (by kernel_rfl) rfl (fun K hK => ?_)
      have p0 := B3.out.at_ 0 _ rfl
      have p1 := B3.out.at_ 1 _ rfl
      have q0 := B3.out.free 0
      have q1 := B3.out.free 1
      go_simp
      refine hK.out _ _ (.inl rfl) ?_
      clear hK K p0 p1 q0 q1 hS hS3
      refine wpAnyT_done (by kernel_rfl) ?_ _
      have B4 : Bl ((w3.setCell ⟨p, 0, none⟩ (.pointer (some ⟨pb, 0, none⟩))).setCell ⟨p, 1, none⟩ (.string (src.extract f a))) p [.pointer (some ⟨pb, 0, none⟩), .string (src.extract f a)] := (B3.out.set 0 _ (by simp)).set 1 _ (by simp)
      have ks : Kp [p] w3 ((w3.setCell ⟨p, 0, none⟩ (.pointer (some ⟨pb, 0, none⟩))).setCell ⟨p, 1, none⟩ (.string (src.extract f a))) := (Kp.setCell _ _ (by simp)).trans (Kp.setCell _ _ (by simp))
      obtain ⟨w4, hw4⟩ : ∃ w4, w4 = (w3.setCell ⟨p, 0, none⟩ (.pointer (some ⟨pb, 0, none⟩))).setCell ⟨p, 1, none⟩ (.string (src.extract f a)) := ⟨_, rfl⟩
      rw [← hw4] at B4 ks ⊢
      clear hw4
      go_wp2_with fail
      obtain ⟨g, o1, o2, q1, q2, q3, q4, q5⟩ := HPT.out.bears
      have hpp : p < w2.heap.size := HBL.out
      refine bodyPost_ret (res_row (p := 2) (ty := 91) (by rw [Tryz.results106]) _ _ p 0 rfl _ _ B4.range Tryz.underlying91 rfl (by rw [Tryz.szPattern]; rfl)) rfl ⟨pb, g, o1, o2, by rw [Nat.add_sub_cancel, HF.out], (ks.block pb (lt_blk q1) (by simp; omega)).trans q1, (ks.block g (lt_blk q2) (by simp; omega)).trans q2, by have := HZ.out; omega, by have := HZ.out; omega, q5, ?_, M3.out.past ks hlt (fun q hq => by simp at hq; have := HP.out; omega)⟩
      rw [← HA1.out]
      exact h3.keep ks (by simpa using Ne.symm hpb)
    case false =>
      rw [h47, if_neg (by simp)] at hN
      cases h92 : saw src a 92
      case false =>
        rw [h92, if_neg (by simp)] at hN
        have SH := hid (shut_v hrr hk h10 h47)
        have H92 := hid h92
        have HN := hid hN
        clear h10 h47 h92 hN
        go_wp2_with fail
        refine SH.out.mono ?_
        rintro r w1 ⟨rfl, h1, m1⟩
        have h1 : Cur w1 b src a := h1
        go_wp2_with fail
        refine (take_v 92 h1 H92.out).mono ?_
        rintro r w2 ⟨rfl, h2, m2⟩
        have h2 : Cur w2 b src a := h2
        have c1 := h2.c1
        have f1 := h2.free 1
        have B2 := hid ((HB.out.keep (m1.trans m2).kp (by simpa using hpb)).keep (Kp.setCell (S := [b]) (p := ⟨b, 1, none⟩) w2 (.int .i64 ((a : Int) + 1)) (by simp)) (by simpa using hpb))
        go_wp2_with fail
        go_round
        case rel => exact ⟨a + 1, m, by omega, h2.step hk, hid (HM.out.trans ((m1.trans m2).trans (Mv.step _ _ _))), B2, HN⟩
        case measure => rw [curAt_of (h2.step hk), HAT.out]; omega
      case true =>
        rw [h92, if_pos rfl] at hN
        by_cases hk2 : a + 1 < src.size ∧ saw src (a + 1) 10 = false
        case neg => rw [if_neg hk2] at hN; cases hN
        rw [if_pos hk2] at hN
        have SH := hid (shut_v hrr hk h10 h47)
        have H92 := hid h92
        have HN := hid hN
        have HK2 := hid hk2
        clear h10 h47 h92 hN hk2
        go_wp2_with fail
        refine SH.out.mono ?_
        rintro r w1 ⟨rfl, h1, m1⟩
        have h1 : Cur w1 b src a := h1
        go_wp2_with fail
        refine (take_v 92 h1 H92.out).mono ?_
        rintro r w2 ⟨rfl, h2, m2⟩
        have h2 : Cur w2 b src (a + 1) := h2
        go_wp2_with fail
        refine (stay_v h2 HK2.out.1 HK2.out.2).mono ?_
        rintro r w3 ⟨rfl, h3, m3⟩
        have c1 := h3.c1
        have f1 := h3.free 1
        have m13 := m1.trans (m2.trans m3)
        have B2 := hid ((HB.out.keep m13.kp (by simpa using hpb)).keep (Kp.setCell (S := [b]) (p := ⟨b, 1, none⟩) w3 (.int .i64 (((a + 1 : Nat) : Int) + 1)) (by simp)) (by simpa using hpb))
        have S3 := hid (h3.step HK2.out.1)
        have HCA : Hid (curAt (w3.setCell ⟨b, 1, none⟩ (.int .i64 ((a : Int) + 1 + 1))) b = a + 1 + 1) := hid (by simpa using curAt_of S3.out)
        go_wp2_with fail
        go_round
        case rel => exact ⟨a + 1 + 1, m, by omega, S3.out, hid (HM.out.trans (m13.trans (Mv.step _ _ _))), B2, HN⟩
        case measure => rw [HCA.out, HAT.out]; omega
end
end Go.Proofs.YtonnimbcekhbgaaGreatDoor

/- The machine: whether a pattern that is a row of bytes is found in the space. -/
namespace Go.Proofs.YtonnimbcekhbgaaGreatDoor
open Go.RowKit

/-- A pattern that is a row of bytes. -/
abbrev rowP (t : List UInt8) : List Pc := pcsOf 0 0 t.length (msOf t)
abbrev rowQ (t : List UInt8) : Nat → World → Prop := fun pb w => PtR 0 w pb (1 + (rowP t).length) (rowBegin (rowP t).reverse 1 0) 0 0 (ins0 6 0 0 0 0 ++ rowCode 0 (rowP t).reverse 1 0)

section
variable {w0 w w' w2 : World} {mb sb db lo hi : Nat} {s s' : Mst} {σ : Sst}

/-- Whether a text stands somewhere in another one. -/
def hasB (text t : List UInt8) : Bool := (List.range (text.length + 1)).any fun a => standsB (ba text) (ba t) a
theorem hasB_iff (text t : List UInt8) : hasB text t = true ↔ ∃ a, standsB (ba text) (ba t) a = true := by
  unfold hasB
  rw [List.any_eq_true]
  constructor
  · rintro ⟨a, _, h⟩; exact ⟨a, h⟩
  · rintro ⟨a, h⟩
    refine ⟨a, List.mem_range.2 ?_, h⟩
    have := ((stands_iff _ _ _).1 h).1
    rw [ba_size, ba_size] at this
    omega

theorem find_row {p : Nat} {t text : List UInt8} (pt : rowQ t p w) (ht : t.length ≤ 150) (htx : text.length ≤ 5000) :
    Calls Tryz.prog 141 #[.pointer (some ⟨p, 0, none⟩), .string (ba text)] w fun e w' => Kp [] w w' ∧ ((hasB text t = false ∧ e = .returned (.slice none 0 0)) ∨ (hasB text t = true ∧ ∃ b c, e = .returned (.slice (some ⟨b, 0, none⟩) 2 c))) := by
  have hlen : (rowP t).length = t.length := (pcsOf_len (B := 0) (E := 0) (L := t.length) (ms := msOf t) (by omega) (by omega)).trans (by omega)
  obtain ⟨g, c, hcd⟩ := cd_of pt (fun q hq => pcsOf_kind q hq)
  have c1 := pt.c1
  have c2 := pt.c2
  have ebg : rowBegin (rowP t).reverse 1 0 = ((t.length : Nat) : Int) := by
    rw [rowBegin_eq]
    by_cases h0 : (rowP t).reverse = []
    · rw [if_pos h0]
      have : (rowP t).length = 0 := by rw [← List.length_reverse, h0]; rfl
      have h3 : t.length = 0 := by omega
      rw [h3]; rfl
    · rw [if_neg h0, List.length_reverse, hlen]; congr 1; omega
  rw [ebg] at c1
  have hok : Cok (cdOf (rowP t)) (1 + (rowP t).length) 0 (0 + t.length + 0) := ⟨hcd.ok, fun a ha h3 => absurd h3 (by have := (cdOf_kind (rowP t) (fun q hq => pcsOf_kind q hq) a ha); omega), by omega⟩
  refine (find_any (bg := t.length) (G := 0) (text := ba text) hcd c1 c2 (by omega) (by omega) (by omega) (by rw [ba_size]; omega)).mono ?_
  rintro e w2 ⟨k2, s', runs, hres⟩
  rw [show t.length = 0 + t.length + 0 by omega] at runs
  have en := runs_row hok (chain_of (by omega) (by omega)) runs
  have key : ∀ a, Stands 0 0 t.length (msOf t) (ba text) a ↔ standsB (ba text) (ba t) a = true := fun a => by
    rw [stands_iff, ba_size, ba_list]
    constructor
    · rintro ⟨_, h1, h2, _⟩; exact ⟨h1, h2⟩
    · rintro ⟨h1, h2⟩; exact ⟨.inl rfl, h1, h2, fun h => by omega⟩
  refine ⟨k2, ?_⟩
  rcases hres with ⟨hfd, rfl⟩ | ⟨hfd, b, q, rfl, _⟩
  · refine .inl ⟨?_, rfl⟩
    rcases en with ⟨a, _, _, q, _⟩ | ⟨q, _⟩
    · rw [hfd] at q; cases q
    · cases hh : hasB text t with
      | false => rfl
      | true =>
        obtain ⟨a, ha⟩ := (hasB_iff _ _).1 hh
        exact absurd ((key a).2 ha) (q a)
  · refine .inr ⟨?_, b, q, rfl⟩
    rcases en with ⟨a, st, _⟩ | ⟨_, q⟩
    · exact (hasB_iff _ _).2 ⟨a, (key a).1 st⟩
    · rw [hfd] at q; cases q

set_option maxHeartbeats 1000000 in
theorem saysK_pat {g o p : Nat} {t L : List UInt8} (h : Mac w0 w mb sb db s) (h0 : w.cell? ⟨g, o, none⟩ = some (.int .i64 2)) (h2 : w.cell? ⟨g, o + 2, none⟩ = some (.pointer (some ⟨p, 0, none⟩))) (pt : rowQ t p w) (hs : s.space = ba L) (ht : t.length ≤ 150) (hL : L.length ≤ 5000) : SaysK mb w g o (hasB L t) := by
  intro wx kx
  have hl := World.block_lt_of_cell? _ _ h0
  have c9 := (h.keep kx).b.at_ 9 _ rfl
  rw [hs] at c9
  have d0 := (kx.cell (p := ⟨g, o, none⟩) hl (by simp)).trans h0
  have d2 := (kx.cell (p := ⟨g, o + 2, none⟩) hl (by simp)).trans h2
  have ptx : rowQ t p wx := PtR.keep pt kx (by simp)
  have HPT := hid ptx
  clear h0 h2 pt ptx
  go_enter Tryz.func126, Tryz.ntmps126
  have F2 := hid (find_row (w := wx.drew) (text := L) (PtR.keep (HPT.out) (Kp.drew [] wx) (by simp)) ht hL)
  go_wp2_with fail
  cases hb : hasB L t with
  | false =>
    have F3 : Hid (Calls Tryz.prog 141 #[.pointer (some ⟨p, 0, none⟩), .string (ba L)] wx.drew fun e w' => e = .returned (.slice none 0 0) ∧ Kp [] wx.drew w') := hid (F2.out.mono fun e w' ⟨k, h⟩ => by
      rcases h with ⟨_, he⟩ | ⟨hc, _⟩
      · exact ⟨he, k⟩
      · rw [hb] at hc; cases hc)
    go_region_with (go_at_call 141; refine F3.out.mono ?_; rintro r w1 ⟨rfl, k1⟩)
    all_goals
      go_wp2_with fail
      go_ret
      exact ⟨by rw [hb]; rfl, (Kp.drew [] wx).trans k1⟩
  | true =>
    have F3 : Hid (Calls Tryz.prog 141 #[.pointer (some ⟨p, 0, none⟩), .string (ba L)] wx.drew fun e w' => (∃ b c, e = .returned (.slice (some ⟨b, 0, none⟩) 2 c)) ∧ Kp [] wx.drew w') := hid (F2.out.mono fun e w' ⟨k, h⟩ => by
      rcases h with ⟨hc, _⟩ | ⟨_, he⟩
      · rw [hb] at hc; cases hc
      · exact ⟨he, k⟩)
    go_region_with (go_at_call 141; refine F3.out.mono ?_; rintro r w1 ⟨⟨b, c, rfl⟩, k1⟩)
    all_goals
      go_wp2_with fail
      go_ret
      exact ⟨by rw [hb]; rfl, (Kp.drew [] wx).trans k1⟩
end
end Go.Proofs.YtonnimbcekhbgaaGreatDoor

/- What the law's scripts of two addresses do with its lines. -/
namespace Go.Proofs.YtonnimbcekhbgaaGreatDoor
open Go.RowKit

section
variable {w0 w w' : World} {mb sb db lo hi : Nat} {s s' : Mst} {σ : Sst} {ls : List (List UInt8)}

/-- a,b with p, d and !d -/
def xS (a b : Nat) : ByteArray := dg a ++ ⟨#[44]⟩ ++ dg b
def rpS (a b : Nat) : ByteArray := ⟨#[35, 110, 10]⟩ ++ xS a b ++ ⟨#[112]⟩
def rdS (a b : Nat) : ByteArray := xS a b ++ ⟨#[100]⟩
def rnS (a b : Nat) : ByteArray := xS a b ++ ⟨#[33, 100]⟩
def numsOk (a b : Nat) : Bool :=
  twoAt (rpS a b) 3 a b false 112 (3 + (dg a).size) (3 + (dg a).size + 1 + (dg b).size) (3 + (dg a).size + 1 + (dg b).size) && qtB (rpS a b) &&
  twoAt (rdS a b) 0 a b false 100 (dg a).size ((dg a).size + 1 + (dg b).size) ((dg a).size + 1 + (dg b).size) && !(qtB (rdS a b)) &&
  twoAt (rnS a b) 0 a b true 100 (dg a).size ((dg a).size + 1 + (dg b).size) ((dg a).size + 1 + (dg b).size + 1) && !(qtB (rnS a b))
theorem nums_all : ∀ a, a < 15 → 1 ≤ a → ∀ b, b < 15 → 1 ≤ b → numsOk a b = true := by decide +kernel
theorem nums_ok {a b : Nat} (ha : 1 ≤ a ∧ a < 15) (hb : 1 ≤ b ∧ b < 15) : (twoAt (rpS a b) 3 a b false 112 (3 + (dg a).size) (3 + (dg a).size + 1 + (dg b).size) (3 + (dg a).size + 1 + (dg b).size) = true ∧ qtB (rpS a b) = true) ∧
    (twoAt (rdS a b) 0 a b false 100 (dg a).size ((dg a).size + 1 + (dg b).size) ((dg a).size + 1 + (dg b).size) = true ∧ qtB (rdS a b) = false) ∧
    (twoAt (rnS a b) 0 a b true 100 (dg a).size ((dg a).size + 1 + (dg b).size) ((dg a).size + 1 + (dg b).size + 1) = true ∧ qtB (rnS a b) = false) := by
  have := nums_all a ha.2 ha.1 b hb.2 hb.1
  simp only [numsOk, Bool.and_eq_true, Bool.not_eq_true'] at this
  obtain ⟨⟨⟨⟨⟨h1, h2⟩, h3⟩, h4⟩, h5⟩, h6⟩ := this
  exact ⟨⟨h1, h2⟩, ⟨h3, h4⟩, h5, h6⟩

abbrev tlIn (ins : List (List UInt8) → List UInt8 → Bool) (v : Bool) : List (List UInt8) → List UInt8 → List UInt8 := fun M L => if ins M L = v then L ++ [10] else []
abbrev insN (a b : Nat) : List (List UInt8) → List UInt8 → Bool := fun M _ => insB a b (M.length + 1)
theorem tlIn_le (ins : List (List UInt8) → List UInt8 → Bool) (v : Bool) (M : List (List UInt8)) (l : List UInt8) (h : LineOk l) : (tlIn ins v M l).length ≤ 1000 := by
  have := h.1
  unfold tlIn
  split <;> simp; omega

theorem doesRp {a b : Nat} {w : World} (ha : 1 ≤ a ∧ a < 15) (hb : 1 ≤ b ∧ b < 15) (hl : Lok ls) : Calls Tryz.prog 12 #[.string (rpS a b), .string (ba (wh ls)), .string (ba (toldP (tlIn (insN a b) true) [] ls)), .int .i64 0] w fun r w' => r = .returned (.bool true) ∧ Kp [] w w' := by
  obtain ⟨⟨h1, h2⟩, _, _⟩ := nums_ok ha hb
  refine does_linesP (I := fun _ M rg _ => rg = [onB a b M.length]) (ct := fun M L => if insB a b (M.length + 1) then L.length + 1 else 0) (twoAt_script (i := 21) h1 (by kernel_rfl) (by omega)) hl (fun M l h => by have := h.1; split <;> omega) (tlIn_le _ _) rfl (fun σ σ' hf ht => ?_)
  obtain ⟨_, _, q3, q4, q5, c, q6, q7⟩ := two_facts hf ht
  refine ⟨q3, by omega, knows_two q6 q7 (by simp [Adr.kd]) (by simp [Adr.kd]) (by omega) (by omega), ?_, doesP_print q6 (q5.trans h2) q7 (rules_nums a b)⟩
  rw [q4]
  show [false] = [onB a b 0]
  simp [onB]; omega
theorem doesRd {a b : Nat} {w : World} (ha : 1 ≤ a ∧ a < 15) (hb : 1 ≤ b ∧ b < 15) (hl : Lok ls) : Calls Tryz.prog 12 #[.string (rdS a b), .string (ba (wh ls)), .string (ba (toldP (tlIn (insN a b) false) [] ls)), .int .i64 0] w fun r w' => r = .returned (.bool true) ∧ Kp [] w w' := by
  obtain ⟨_, ⟨h1, h2⟩, _⟩ := nums_ok ha hb
  refine does_linesP (I := fun _ M rg _ => rg = [onB a b M.length]) (ct := fun M L => if insB a b (M.length + 1) = false then L.length + 1 else 0) (twoAt_script (i := 12) h1 (by kernel_rfl) (by omega)) hl (fun M l h => by have := h.1; split <;> omega) (tlIn_le _ _) rfl (fun σ σ' hf ht => ?_)
  obtain ⟨_, _, q3, q4, q5, c, q6, q7⟩ := two_facts hf ht
  refine ⟨q3, by omega, knows_two q6 q7 (by simp [Adr.kd]) (by simp [Adr.kd]) (by omega) (by omega), ?_, doesP_drop q6 (q5.trans h2) q7 (rules_nums a b)⟩
  rw [q4]
  show [false] = [onB a b 0]
  simp [onB]; omega
theorem doesRn {a b : Nat} {w : World} (ha : 1 ≤ a ∧ a < 15) (hb : 1 ≤ b ∧ b < 15) (hl : Lok ls) : Calls Tryz.prog 12 #[.string (rnS a b), .string (ba (wh ls)), .string (ba (toldP (tlIn (insN a b) true) [] ls)), .int .i64 0] w fun r w' => r = .returned (.bool true) ∧ Kp [] w w' := by
  obtain ⟨_, _, ⟨h1, h2⟩⟩ := nums_ok ha hb
  refine does_linesP (I := fun _ M rg _ => rg = [onB a b M.length]) (ct := fun M L => if insB a b (M.length + 1) = true then L.length + 1 else 0) (twoAt_script (i := 12) h1 (by kernel_rfl) (by omega)) hl (fun M l h => by have := h.1; split <;> omega) (tlIn_le _ _) rfl (fun σ σ' hf ht => ?_)
  obtain ⟨_, _, q3, q4, q5, c, q6, q7⟩ := two_facts hf ht
  refine ⟨q3, by omega, knows_two q6 q7 (by simp [Adr.kd]) (by simp [Adr.kd]) (by omega) (by omega), ?_, doesP_drop q6 (q5.trans h2) q7 (rules_nums a b)⟩
  rw [q4]
  show [false] = [onB a b 0]
  simp [onB]; omega

/-- Two patterns. -/
theorem ranged_pats {p : Pst} {i : Nat} {tA tB L : List UInt8} {xA xB : ByteArray} {g : Bool} (hg : p.rg[i]? = some g) (hsp : p.space = ba L) (hA : tA.length ≤ 150) (hB : tB.length ≤ 150) (hL : L.length ≤ 5000) :
    RangedTo w0 mb sb db p i (.pat (rowQ tA) xA) (.pat (rowQ tB) xB) (g || hasB L tA) (p.rgd i (if g then !(hasB L tB) else hasB L tA)) := by
  intro w s ca co ap va vb hM hp h0 h1 eA eB cA cB
  subst hp
  obtain ⟨pa, rfl, qa⟩ := eA
  obtain ⟨pb, rfl, qb⟩ := eB
  have hT : Two w ca co ap i 2 0 := ⟨h0, h1, cB 0 _ rfl, cB 1 _ rfl⟩
  have hg : s.r.rg[i]? = some g := hg
  cases g with
  | true => exact ranged_on hM hT (by omega) hg (saysK_pat hM (cB 0 _ rfl) (cB 2 _ rfl) qb hsp hB hL)
  | false =>
    have := ranged_off hM hT (by omega) hg (saysK_pat hM (cA 0 _ rfl) (cA 2 _ rfl) qa hsp hA hL)
    simpa using this

def onP (M : List (List UInt8)) : Bool := M.foldl (fun on L => (on && !(hasB L [99])) || (!on && hasB L [97, 98])) false
abbrev insP : List (List UInt8) → List UInt8 → Bool := fun M L => onP M || hasB L [97, 98]
theorem onP_snoc (M : List (List UInt8)) (L : List UInt8) : onP (M ++ [L]) = ((onP M && !(hasB L [99])) || (!(onP M) && hasB L [97, 98])) := by
  unfold onP
  rw [List.foldl_append]; rfl
theorem rules_pats {xA xB : ByteArray} : Rules σ (.pat (rowQ [97, 98]) xA) (.pat (rowQ [99]) xB) onP insP := by
  intro w0 mb sb db p M L hb hL hI
  have hg : p.on.rg[0]? = some (onP M) := by show p.rg[0]? = _; rw [hI]; rfl
  have := ranged_pats (w0 := w0) (mb := mb) (sb := sb) (db := db) (xA := xA) (xB := xB) (tA := [97, 98]) (tB := [99]) hg (show p.on.space = ba L from hb.space) (by simp) (by simp) (by omega)
  rw [onP_snoc]
  have e : (if onP M then !(hasB L [99]) else hasB L [97, 98]) = ((onP M && !(hasB L [99])) || (!(onP M) && hasB L [97, 98])) := by cases onP M <;> simp
  rw [e] at this
  exact this

/-- #n, /ab/,/c/p -/
abbrev pS : ByteArray := ⟨#[35, 110, 10, 47, 97, 98, 47, 44, 47, 99, 47, 112]⟩
theorem rowP_len (t : List UInt8) : (rowP t).length = t.length := (pcsOf_len (B := 0) (E := 0) (L := t.length) (ms := msOf t) (by omega) (by omega)).trans (by omega)
theorem row_ok (l t : List UInt8) (k b : Nat) (h1 : l.drop k = t.flatMap quote1) (h2 : k + (t.flatMap quote1).length = l.length) : RowOk b ⟨l.toArray⟩ 0 k ((rowP t).map Pc.val) := by
  have := rowOk_bytes (b := b) (g := 0) (l := l) (post := []) (vs := []) rfl t k (by rw [List.append_nil]; exact h1) (by show _ = l.toArray.size; rw [List.size_toArray]; exact h2)
  rw [vals_of]
  simpa using this
theorem pat_ok {src : ByteArray} {k e m : Nat} (l t : List UInt8) (h47 : saw src k 47 = true) (hp : ptN src m (k + 1) = some e) (hl : e - 1 ≤ 100 + (k + 1)) (hsrc : src.extract 0 (e - 1) = ⟨l.toArray⟩) (h1 : l.drop (k + 1) = t.flatMap quote1) (h2 : k + 1 + (t.flatMap quote1).length = l.length) (ht : t.length ≤ 150) : PatOk src k e (rowQ t) (src.extract (k + 1) (e - 1)) :=
  pattern_v h47 hp hl (by omega) (by rw [hsrc]; exact reads_row (by have := rowP_len t; omega) (fun b _ => row_ok l t (k + 1) b h1 h2))
theorem script_p : Script pS (twoT [.pat (rowQ [97, 98]) (pS.extract 4 6), .pat (rowQ [99]) (pS.extract 9 10)] false 112) := by
  refine ⟨by decide +kernel, ⟨1, by omega, fun w0 b' => .more (n := 10) (k1 := 3) (e := 12) (by kernel_rfl) (by decide +kernel) (by omega) (cmdN_ok (k1 := 11) (k3 := 11) (e' := 12) (i := 21) ⟨7, ⟨by kernel_rfl, by kernel_rfl, by kernel_rfl, pat_ok (m := 20) [35, 110, 10, 47, 97, 98] [97, 98] (by kernel_rfl) (by kernel_rfl) (by omega) (by kernel_rfl) (by decide +kernel) (by decide +kernel) (by simp)⟩, by kernel_rfl, by kernel_rfl, by kernel_rfl, by kernel_rfl, pat_ok (m := 20) [35, 110, 10, 47, 97, 98, 47, 44, 47, 99] [99] (by kernel_rfl) (by kernel_rfl) (by omega) (by kernel_rfl) (by decide +kernel) (by decide +kernel) (by simp)⟩ (.inl ⟨rfl, by kernel_rfl, by kernel_rfl⟩) (by kernel_rfl) (by kernel_rfl) (by omega) (op_nothing w0 b' pS 12) opR_nothing enters_nothing (by kernel_rfl) (by kernel_rfl)) (cmdT_grows opR_nothing) (.done (n := 10) (by kernel_rfl))⟩, fun σ σ' hf e => ?_⟩
  have := two_facts hf e
  exact ⟨this.1, this.2.1⟩
theorem doesPat {w : World} (hl : Lok ls) : Calls Tryz.prog 12 #[.string pS, .string (ba (wh ls)), .string (ba (toldP (tlIn insP true) [] ls)), .int .i64 0] w fun r w' => r = .returned (.bool true) ∧ Kp [] w w' := by
  refine does_linesP (I := fun _ M rg _ => rg = [onP M]) (ct := fun M L => if insP M L then L.length + 1 else 0) script_p hl (fun M l h => by have := h.1; split <;> omega) (tlIn_le _ _) rfl (fun σ σ' hf ht => ?_)
  obtain ⟨_, _, q3, q4, q5, c, q6, q7⟩ := two_facts hf ht
  refine ⟨q3, by omega, knows_two q6 q7 (by simp [Adr.kd]) (by simp [Adr.kd]) (by omega) (by omega), ?_, doesP_print q6 (q5.trans (by kernel_rfl)) q7 rules_pats⟩
  rw [q4]
  rfl
end
end Go.Proofs.YtonnimbcekhbgaaGreatDoor
