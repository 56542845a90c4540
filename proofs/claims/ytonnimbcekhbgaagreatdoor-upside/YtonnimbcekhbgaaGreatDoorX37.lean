/- What the claim needs of: KEToKH KL. -/
import Derived.Test.YtonnimbcekhbgaaGreatDoorX19
import Derived.Test.YtonnimbcekhbgaaGreatDoorX23
import Derived.Test.YtonnimbcekhbgaaGreatDoorX20
import Derived.Test.YtonnimbcekhbgaaGreatDoorX36
import Derived.Test.YtonnimbcekhbgaaGreatDoorX10
import Derived.Test.YtonnimbcekhbgaaGreatDoorX21
import Derived.Test.YtonnimbcekhbgaaGreatDoorX33
import Derived.Test.YtonnimbcekhbgaaGreatDoorX34

/- KEToKH. -/
namespace Go.Proofs.YtonnimbcekhbgaaGreatDoor
open Go.RowKit

/-- Where a pattern's slash is passed. -/
def ptN (s : ByteArray) : Nat → Nat → Option Nat
  | 0, _ => none
  | n + 1, k => if k < s.size then
      if saw s k 10 then none else if saw s k 47 then some (k + 1)
      else if saw s k 92 then (if k + 1 < s.size ∧ saw s (k + 1) 10 = false then ptN s n (k + 2) else none) else ptN s n (k + 1)
    else none
theorem ptN_le {s : ByteArray} : ∀ {n k e : Nat}, ptN s n k = some e → k < e ∧ e ≤ s.size
  | 0, _, _, h => by cases h
  | n + 1, k, e, h => by
    unfold ptN at h
    split at h
    · split at h
      · cases h
      split at h
      · injection h with h
        omega
      split at h
      · split at h
        · have := ptN_le h; omega
        · cases h
      · have := ptN_le h; omega
    · cases h

/-- A pattern of these instructions lies there. -/
abbrev PatQ (n : Nat) (bg : Int) (groups deepest : Nat) (xs : List Value) : Nat → World → Prop := fun pb w => PtR 0 w pb n bg groups deepest xs
theorem PtR.bears {B : Nat} {w : World} {p n groups deepest : Nat} {begin : Int} {xs : List Value} (h : PtR B w p n begin groups deepest xs) : ∃ g o1 o2, w.heap[p]? = some o1 ∧ w.heap[g]? = some o2 ∧ B ≤ p ∧ B ≤ g ∧ Bears (PatQ n begin groups deepest xs) p g o1 o2 := by
  obtain ⟨g, c, h1, h2⟩ := h.code
  have hg := own_lt h2 (g := g) rfl
  obtain ⟨o1, e1⟩ : ∃ o, w.heap[p]? = some o := ⟨_, Array.getElem?_eq_getElem h.lt⟩
  obtain ⟨o2, e2⟩ : ∃ o, w.heap[g]? = some o := ⟨_, Array.getElem?_eq_getElem hg.2⟩
  refine ⟨g, o1, o2, e1, e2, h.lo, hg.1, fun w2 q1 q2 => ?_⟩
  have k1 : w2.heap[p]? = w.heap[p]? := q1.trans e1.symm
  have k2 : w2.heap[g]? = w.heap[g]? := q2.trans e2.symm
  refine ⟨Nat.zero_le _, lt_blk q1, ⟨g, c, (World.cell?_of_block k1).trans h1, ownsRow_lower (own_block h2 (fun k hk => ?_)) (Nat.zero_le _)⟩, (World.cell?_of_block k1).trans h.c1, (World.cell?_of_block k1).trans h.c2, (World.cell?_of_block k1).trans h.c3⟩
  have : g = k := by simpa [Value.ownBlock] using hk
  subst this
  exact k2

theorem Tryz.szPattern : (Tryz.prog.info? 91).map (·.size) = some 2 := by kernel_rfl
section
variable {w w' : World} {b k : Nat} {src : ByteArray}

set_option maxRecDepth 100000 in
set_option maxHeartbeats 4000000 in
theorem pattern_v {m e n groups deepest : Nat} {bg : Int} {xs : List Value} (h47 : saw src k 47 = true) (hp : ptN src m (k + 1) = some e) (hl : e - 1 ≤ 100 + (k + 1)) (hn : 0 < n) (hR : Reads (src.extract 0 (e - 1)) (k + 1) groups n bg deepest xs) :
    PatOk src k e (PatQ n bg groups deepest xs) (src.extract (k + 1) (e - 1)) := by
  intro w b hr
  have hsm := hr.small
  have hlt := hr.lt
  have hle := ptN_le hp
  have H := hid hp
  have HR := hid hR
  clear hp hR
  have k1 := Kp.alloc [] w (.cells #[.pointer none, .string ⟨#[]⟩] 91)
  have BP := Bl.alloc w [.pointer none, .string ⟨#[]⟩] 91
  obtain ⟨p, hp⟩ : ∃ p, p = w.heap.size := ⟨_, rfl⟩
  obtain ⟨wt, hwp⟩ : ∃ wt, wt = w.alloc (.cells #[.pointer none, .string ⟨#[]⟩] 91) := ⟨_, rfl⟩
  have hr1 := hr.keep k1 (by simp)
  have m1 : Mv b w wt := by rw [hwp]; exact ⟨k1.mono (by simp), fun j _ => k1.cell (p := ⟨b, j, none⟩) hlt (by simp)⟩
  have hpb : p ≠ b := by omega
  rw [← hp, ← hwp] at BP
  rw [← hwp] at k1 hr1
  have hpw : p < wt.heap.size := BP.lt
  go_enter Tryz.func106, Tryz.ntmps106
  go_upto_region 1 with fail
  rw [← hp, ← hwp]
  have HP := hid hp
  clear hp hwp
  go_wp2_with fail
  refine (expect_v 47 hr1 h47).mono ?_
  rintro r w2 ⟨rfl, hr2, m2⟩
  have B2 := BP.keep m2.kp (by simpa using hpb)
  have m02 := m1.trans m2
  have c1 := hr2.c1
  clear k1 hr BP hr1 h47 m1 m2
  obtain ⟨f, hf⟩ : ∃ f, f = k + 1 := ⟨_, rfl⟩
  rw [← hf] at c1 hr2 H hle HR hl
  have HF := hid hf
  clear hf
  go_wp2_with fail
  go_loopw [14] (fun _ wr => ∃ a m, f ≤ a ∧ Cur wr b src a ∧ Hid (Mv b w wr) ∧ Hid (Bl wr p [.pointer none, .string ⟨#[]⟩]) ∧ Hid (ptN src m a = some e)) (fun _ wr => 3000 - curAt wr b)
  case atStart => exact ⟨f, m, Nat.le_refl _, hr2, hid m02, hid B2, H⟩
  case round =>
    clear hr2 m02 B2 H c1
    obtain ⟨a, m, hfa, hrr, HM, HB, HN⟩ := hrel
    have HAT := hid (curAt_of hrr)
    match m, HN with
    | 0, HN => cases HN.out
    | m + 1, HN =>
    have hN := HN.out
    have hle := ptN_le hN
    unfold ptN at hN
    clear HN
    have hk : a < src.size := by omega
    rw [if_pos hk] at hN
    cases h10 : saw src a 10
    case true => rw [h10] at hN; cases hN
    rw [h10, if_neg (by simp)] at hN
    cases h47 : saw src a 47
    case true =>
      rw [h47, if_pos rfl] at hN
      injection hN with e2
      subst e2
      have SH := hid (shut_v hrr hk h10 h47)
      clear h10 h47 hle
      go_wp2_with fail
      refine SH.out.mono ?_
      rintro r w1 ⟨rfl, h1, m1⟩
      have h1 : Cur w1 b src (a + 1) := h1
      have c1 := h1.c1
      have hkl : a ≤ src.size := by omega
      have wd := wrap_i64_nat a (by omega)
      have e1 : ((a + 1 : Nat) : Int) - 1 = (a : Int) := by omega
      obtain ⟨a1, ha1⟩ : ∃ a1, a1 = a + 1 := ⟨_, rfl⟩
      rw [← ha1] at c1 h1 e1
      have B1 := hid (HB.out.keep m1.kp (by simpa using hpb))
      have M1 := hid (HM.out.trans m1)
      have HA1 := hid ha1
      clear ha1 m1 hrr HM HB
      go_upto_region 8 with fail
      have HRR := HR.out
      rw [Nat.add_sub_cancel] at HRR
      have hsz : (src.extract 0 a).size = a := by rw [ByteArray.size_extract]; omega
      have RD := hid (read_gen (w := w1.drew) ⟨by have := h1.lt; show 0 < w1.heap.size; omega⟩ (by omega) (by omega) (by omega) hn HRR)
      have h2 := h1.drew
      have hS : (fun w' : World => w'.cell? ⟨b, 0, none⟩ = some (.string src)) w1.drew := h2.c0
      have B2 := hid (B1.out.keep (Kp.drew [] w1) (by simp))
      have M2 := hid (M1.out.trans (Mv.drew b w1))
      clear c1 HRR hsz
      refine wp_region_T (fun w' : World => w'.cell? ⟨b, 0, none⟩ = some (.string src)) 18 (by kernel_rfl) ?_
      obtain ⟨w2, hw2⟩ : ∃ w2, w2 = w1.drew := ⟨_, rfl⟩
      rw [← hw2] at hS B2 M2 h2 RD ⊢
      clear hw2 B1 M1
      refine wpAnyT_take (i := 0) (v := ?v0) rfl (by kernel_rfl) (by kernel_rfl) (by kernel_rfl) (by kernel_rfl) (fun _ _ _ h => h) (Or.inl ⟨by rfl, ?y0⟩) hS ?_
      case y0 => (intro w hSw; (try dsimp only at hSw); go_simp; (try with_reducible rfl))
      simp only [List.getElem_toArray, List.getElem_cons_zero, Act.put, List.setIfInBounds_toArray, List.set_cons_zero, List.set_cons_succ]
      refine wpAnyT_take (i := 1) (v := ?v1) rfl (by kernel_rfl) (by kernel_rfl) (by kernel_rfl) (by kernel_rfl) (fun _ _ _ h => h) (Or.inl ⟨by rfl, ?y1⟩) hS ?_
      case y1 => (intro w hSw; (try dsimp only at hSw); go_simp; (try with_reducible rfl))
      simp only [List.getElem_toArray, List.getElem_cons_succ, List.getElem_cons_zero, Act.put, List.setIfInBounds_toArray, List.set_cons_zero, List.set_cons_succ]
      refine wpAnyT_take (i := 2) (v := ?v2) rfl (by kernel_rfl) (by kernel_rfl) (by kernel_rfl) (by kernel_rfl) (fun _ _ _ h => h) (Or.inl ⟨by rfl, ?y2⟩) hS ?_
      case y2 => (intro w hSw; (try dsimp only at hSw); go_simp; (try with_reducible rfl))
      simp only [List.getElem_toArray, List.getElem_cons_succ, List.getElem_cons_zero, Act.put, List.setIfInBounds_toArray, List.set_cons_zero, List.set_cons_succ]
      refine wpAnyT_take (i := 3) (v := ?v3) rfl (by kernel_rfl) (by kernel_rfl) (by kernel_rfl) (by kernel_rfl) (fun _ _ _ h => h) (Or.inl ⟨by rfl, ?y3⟩) hS ?_
      case y3 => (intro w hSw; (try dsimp only at hSw); go_simp; (try with_reducible rfl))
      simp only [List.getElem_toArray, List.getElem_cons_succ, List.getElem_cons_zero, Act.put, List.setIfInBounds_toArray, List.set_cons_zero, List.set_cons_succ]
      refine wpAnyT_take (i := 4) (v := ?v4) rfl (by kernel_rfl) (by kernel_rfl) (by kernel_rfl) (by kernel_rfl) (fun _ _ _ h => h) (Or.inl ⟨by rfl, ?y4⟩) hS ?_
      case y4 => (intro w hSw; (try dsimp only at hSw); go_simp; (try with_reducible rfl))
      simp only [List.getElem_toArray, List.getElem_cons_succ, List.getElem_cons_zero, Act.put, List.setIfInBounds_toArray, List.set_cons_zero, List.set_cons_succ]
      refine wpAnyT_take (i := 5) (v := ?v5) rfl (by kernel_rfl) (by kernel_rfl) (by kernel_rfl) (by kernel_rfl) (fun _ _ _ h => h) (Or.inl ⟨by rfl, ?y5⟩) hS ?_
      case y5 => (intro w hSw; (try dsimp only at hSw); go_simp; (try with_reducible rfl))
      simp only [List.getElem_toArray, List.getElem_cons_succ, List.getElem_cons_zero, Act.put, List.setIfInBounds_toArray, List.set_cons_zero, List.set_cons_succ]
      refine wpAnyT_take (i := 6) (v := ?v6) rfl (by kernel_rfl) (by kernel_rfl) (by kernel_rfl) (by kernel_rfl) (fun _ _ _ h => h) (Or.inl ⟨by rfl, ?y6⟩) hS ?_
      case y6 => (intro w hSw; (try dsimp only at hSw); go_simp; (try with_reducible rfl))
      simp only [List.getElem_toArray, List.getElem_cons_succ, List.getElem_cons_zero, Act.put, List.setIfInBounds_toArray, List.set_cons_zero, List.set_cons_succ]
      refine wpAnyT_take (i := 7) (v := ?v7) rfl (by kernel_rfl) (by kernel_rfl) (by kernel_rfl) (by kernel_rfl) (fun _ _ _ h => h) (Or.inl ⟨by rfl, ?y7⟩) hS ?_
      case y7 => (intro w hSw; (try dsimp only at hSw); go_simp; (try with_reducible rfl))
      simp only [List.getElem_toArray, List.getElem_cons_succ, List.getElem_cons_zero, Act.put, List.setIfInBounds_toArray, List.set_cons_zero, List.set_cons_succ]
      refine wpAnyT_take (i := 9) (v := ?v9) rfl (by kernel_rfl) (by kernel_rfl) (by kernel_rfl) (by kernel_rfl) (fun _ _ _ h => h) (Or.inl ⟨by rfl, ?y9⟩) hS ?_
      case y9 => (intro w hSw; (try dsimp only at hSw); go_simp; (try with_reducible rfl))
      simp only [List.getElem_toArray, List.getElem_cons_succ, List.getElem_cons_zero, Act.put, List.setIfInBounds_toArray, List.set_cons_zero, List.set_cons_succ]
      refine wpAnyT_take (i := 10) (v := ?v10) rfl (by kernel_rfl) (by kernel_rfl) (by kernel_rfl) (by kernel_rfl) (fun _ _ _ h => h) (Or.inl ⟨by rfl, ?y10⟩) hS ?_
      case y10 => (intro w hSw; (try dsimp only at hSw); go_simp; (try with_reducible rfl))
      simp only [List.getElem_toArray, List.getElem_cons_succ, List.getElem_cons_zero, Act.put, List.setIfInBounds_toArray, List.set_cons_zero, List.set_cons_succ]
      refine wpAnyT_take (i := 11) (v := ?v11) rfl (by kernel_rfl) (by kernel_rfl) (by kernel_rfl) (by kernel_rfl) (fun _ _ _ h => h) (Or.inl ⟨by rfl, ?y11⟩) hS ?_
      case y11 => (intro w hSw; (try dsimp only at hSw); go_simp; (try with_reducible rfl))
      simp only [List.getElem_toArray, List.getElem_cons_succ, List.getElem_cons_zero, Act.put, List.setIfInBounds_toArray, List.set_cons_zero, List.set_cons_succ]
      refine wpAnyT_take (i := 12) (v := ?v12) rfl (by kernel_rfl) (by kernel_rfl) (by kernel_rfl) (by kernel_rfl) (fun _ _ _ h => h) (Or.inl ⟨by rfl, ?y12⟩) hS ?_
      case y12 => (intro w hSw; (try dsimp only at hSw); go_simp; (try with_reducible rfl))
      simp only [List.getElem_toArray, List.getElem_cons_succ, List.getElem_cons_zero, Act.put, List.setIfInBounds_toArray, List.set_cons_zero, List.set_cons_succ]
      refine wpAnyT_take (i := 13) (v := ?v13) rfl (by kernel_rfl) (by kernel_rfl) (by kernel_rfl) (by kernel_rfl) (fun _ _ _ h => h) (Or.inl ⟨by rfl, ?y13⟩) hS ?_
      case y13 => (intro w hSw; (try dsimp only at hSw); go_simp; (try with_reducible rfl))
      simp only [List.getElem_toArray, List.getElem_cons_succ, List.getElem_cons_zero, Act.put, List.setIfInBounds_toArray, List.set_cons_zero, List.set_cons_succ]
      refine wpAnyT_take (i := 14) (v := ?v14) rfl (by kernel_rfl) (by kernel_rfl) (by kernel_rfl) (by kernel_rfl) (fun _ _ _ h => h) (Or.inl ⟨by rfl, ?y14⟩) hS ?_
      case y14 => (intro w hSw; (try dsimp only at hSw); go_simp; (try with_reducible rfl))
      simp only [List.getElem_toArray, List.getElem_cons_succ, List.getElem_cons_zero, Act.put, List.setIfInBounds_toArray, List.set_cons_zero, List.set_cons_succ]
      refine wpAnyT_take (i := 15) (v := ?v15) rfl (by kernel_rfl) (by kernel_rfl) (by kernel_rfl) (by kernel_rfl) (fun _ _ _ h => h) (Or.inl ⟨by rfl, ?y15⟩) hS ?_
      case y15 => (intro w hSw; (try dsimp only at hSw); go_simp; (try with_reducible rfl))
      simp only [List.getElem_toArray, List.getElem_cons_succ, List.getElem_cons_zero, Act.put, List.setIfInBounds_toArray, List.set_cons_zero, List.set_cons_succ]
      refine wpAnyT_take (i := 16) (v := ?v16) rfl (by kernel_rfl) (by kernel_rfl) (by kernel_rfl) (by kernel_rfl) (fun _ _ _ h => h) (Or.inl ⟨by rfl, ?y16⟩) hS ?_
      case y16 => (intro w hSw; (try dsimp only at hSw); go_simp; (try with_reducible rfl))
      simp only [List.getElem_toArray, List.getElem_cons_succ, List.getElem_cons_zero, Act.put, List.setIfInBounds_toArray, List.set_cons_zero, List.set_cons_succ]
      refine wpAnyT_one (i := 8) (by kernel_rfl) rfl (fun K hK => ?_)
      go_simp
      refine RD.out.mono ?_
      rintro r w3 ⟨pb, rfl, pt, k3⟩
      have hS3 : (fun w' : World => w'.cell? ⟨b, 0, none⟩ = some (.string src)) w3 := (h2.keep k3 (by simp)).c0
      have h3 := h2.keep k3 (by simp)
      have B3 := hid (B2.out.keep k3 (by simp))
      have M3 : Hid (Mv b w w3) := hid (M2.out.past k3 hlt (by simp))
      have HPT := hid pt
      have HZ : Hid (w.heap.size ≤ w2.heap.size) := hid M2.out.kp.size
      have HBL := hid B2.out.lt
      clear pt k3 h2 B2 M2
      dsimp only
      refine hK.out _ _ (.inr hS3) ?_
      clear hK K
      refine wpAnyT_one (i := 17) (by kernel_rfl) rfl (fun K hK => ?_)
      go_simp
      refine hK.out _ _ (.inr hS3) ?_
      clear hK K
      refine wpAnyT_one (i := 18) (by kernel_rfl) rfl (fun K hK => ?_)
      have p0 := B3.out.at_ 0 _ rfl
      have p1 := B3.out.at_ 1 _ rfl
      have q0 := B3.out.free 0
      have q1 := B3.out.free 1
      go_simp
      refine hK.out _ _ (.inl rfl) ?_
      clear hK K p0 p1 q0 q1 hS hS3
      refine wpAnyT_done (by kernel_rfl) ?_ _
      have B4 : Bl ((w3.setCell ⟨p, 0, none⟩ (.pointer (some ⟨pb, 0, none⟩))).setCell ⟨p, 1, none⟩ (.string (src.extract f a))) p [.pointer (some ⟨pb, 0, none⟩), .string (src.extract f a)] := (B3.out.set 0 _ (by simp)).set 1 _ (by simp)
      have ks : Kp [p] w3 ((w3.setCell ⟨p, 0, none⟩ (.pointer (some ⟨pb, 0, none⟩))).setCell ⟨p, 1, none⟩ (.string (src.extract f a))) := (Kp.setCell _ _ (by simp)).trans (Kp.setCell _ _ (by simp))
      obtain ⟨w4, hw4⟩ : ∃ w4, w4 = (w3.setCell ⟨p, 0, none⟩ (.pointer (some ⟨pb, 0, none⟩))).setCell ⟨p, 1, none⟩ (.string (src.extract f a)) := ⟨_, rfl⟩
      rw [← hw4] at B4 ks ⊢
      clear hw4
      go_wp2_with fail
      obtain ⟨g, o1, o2, q1, q2, q3, q4, q5⟩ := HPT.out.bears
      have hpp : p < w2.heap.size := HBL.out
      refine bodyPost_ret (res_row (p := 2) (ty := 91) (by rw [Tryz.results106]) _ _ p 0 rfl _ _ B4.range Tryz.underlying91 rfl (by rw [Tryz.szPattern]; rfl)) rfl ⟨pb, g, o1, o2, by rw [Nat.add_sub_cancel, HF.out], (ks.block pb (lt_blk q1) (by simp; omega)).trans q1, (ks.block g (lt_blk q2) (by simp; omega)).trans q2, by have := HZ.out; omega, by have := HZ.out; omega, q5, ?_, M3.out.past ks hlt (fun q hq => by simp at hq; have := HP.out; omega)⟩
      rw [← HA1.out]
      exact h3.keep ks (by simpa using Ne.symm hpb)
    case false =>
      rw [h47, if_neg (by simp)] at hN
      cases h92 : saw src a 92
      case false =>
        rw [h92, if_neg (by simp)] at hN
        have SH := hid (shut_v hrr hk h10 h47)
        have H92 := hid h92
        have HN := hid hN
        clear h10 h47 h92 hN
        go_wp2_with fail
        refine SH.out.mono ?_
        rintro r w1 ⟨rfl, h1, m1⟩
        have h1 : Cur w1 b src a := h1
        go_wp2_with fail
        refine (take_v 92 h1 H92.out).mono ?_
        rintro r w2 ⟨rfl, h2, m2⟩
        have h2 : Cur w2 b src a := h2
        have c1 := h2.c1
        have f1 := h2.free 1
        have B2 := hid ((HB.out.keep (m1.trans m2).kp (by simpa using hpb)).keep (Kp.setCell (S := [b]) (p := ⟨b, 1, none⟩) w2 (.int .i64 ((a : Int) + 1)) (by simp)) (by simpa using hpb))
        go_wp2_with fail
        go_round
        case rel => exact ⟨a + 1, m, by omega, h2.step hk, hid (HM.out.trans ((m1.trans m2).trans (Mv.step _ _ _))), B2, HN⟩
        case measure => rw [curAt_of (h2.step hk), HAT.out]; omega
      case true =>
        rw [h92, if_pos rfl] at hN
        by_cases hk2 : a + 1 < src.size ∧ saw src (a + 1) 10 = false
        case neg => rw [if_neg hk2] at hN; cases hN
        rw [if_pos hk2] at hN
        have SH := hid (shut_v hrr hk h10 h47)
        have H92 := hid h92
        have HN := hid hN
        have HK2 := hid hk2
        clear h10 h47 h92 hN hk2
        go_wp2_with fail
        refine SH.out.mono ?_
        rintro r w1 ⟨rfl, h1, m1⟩
        have h1 : Cur w1 b src a := h1
        go_wp2_with fail
        refine (take_v 92 h1 H92.out).mono ?_
        rintro r w2 ⟨rfl, h2, m2⟩
        have h2 : Cur w2 b src (a + 1) := h2
        go_wp2_with fail
        refine (stay_v h2 HK2.out.1 HK2.out.2).mono ?_
        rintro r w3 ⟨rfl, h3, m3⟩
        have c1 := h3.c1
        have f1 := h3.free 1
        have m13 := m1.trans (m2.trans m3)
        have B2 := hid ((HB.out.keep m13.kp (by simpa using hpb)).keep (Kp.setCell (S := [b]) (p := ⟨b, 1, none⟩) w3 (.int .i64 (((a + 1 : Nat) : Int) + 1)) (by simp)) (by simpa using hpb))
        have S3 := hid (h3.step HK2.out.1)
        have HCA : Hid (curAt (w3.setCell ⟨b, 1, none⟩ (.int .i64 ((a : Int) + 1 + 1))) b = a + 1 + 1) := hid (by simpa using curAt_of S3.out)
        go_wp2_with fail
        go_round
        case rel => exact ⟨a + 1 + 1, m, by omega, S3.out, hid (HM.out.trans (m13.trans (Mv.step _ _ _))), B2, HN⟩
        case measure => rw [HCA.out, HAT.out]; omega
end
end Go.Proofs.YtonnimbcekhbgaaGreatDoor

/- The machine: whether a pattern that is a row of bytes is found in the space. -/
namespace Go.Proofs.YtonnimbcekhbgaaGreatDoor
open Go.RowKit

/-- A pattern that is a row of bytes. -/
abbrev rowP (t : List UInt8) : List Pc := pcsOf 0 0 t.length (msOf t)
abbrev rowQ (t : List UInt8) : Nat → World → Prop := fun pb w => PtR 0 w pb (1 + (rowP t).length) (rowBegin (rowP t).reverse 1 0) 0 0 (ins0 6 0 0 0 0 ++ rowCode 0 (rowP t).reverse 1 0)

section
variable {w0 w w' w2 : World} {mb sb db lo hi : Nat} {s s' : Mst} {σ : Sst}

end
end Go.Proofs.YtonnimbcekhbgaaGreatDoor

/- What the law's scripts of two addresses do with its lines. -/
namespace Go.Proofs.YtonnimbcekhbgaaGreatDoor
open Go.RowKit

section
variable {w0 w w' : World} {mb sb db lo hi : Nat} {s s' : Mst} {σ : Sst} {ls : List (List UInt8)}

theorem rowP_len (t : List UInt8) : (rowP t).length = t.length := (pcsOf_len (B := 0) (E := 0) (L := t.length) (ms := msOf t) (by omega) (by omega)).trans (by omega)
theorem row_ok (l t : List UInt8) (k b : Nat) (h1 : l.drop k = t.flatMap quote1) (h2 : k + (t.flatMap quote1).length = l.length) : RowOk b ⟨l.toArray⟩ 0 k ((rowP t).map Pc.val) := by
  have := rowOk_bytes (b := b) (g := 0) (l := l) (post := []) (vs := []) rfl t k (by rw [List.append_nil]; exact h1) (by show _ = l.toArray.size; rw [List.size_toArray]; exact h2)
  rw [vals_of]
  simpa using this
theorem pat_ok {src : ByteArray} {k e m : Nat} (l t : List UInt8) (h47 : saw src k 47 = true) (hp : ptN src m (k + 1) = some e) (hl : e - 1 ≤ 100 + (k + 1)) (hsrc : src.extract 0 (e - 1) = ⟨l.toArray⟩) (h1 : l.drop (k + 1) = t.flatMap quote1) (h2 : k + 1 + (t.flatMap quote1).length = l.length) (ht : t.length ≤ 150) : PatOk src k e (rowQ t) (src.extract (k + 1) (e - 1)) :=
  pattern_v h47 hp hl (by omega) (by rw [hsrc]; exact reads_row (by have := rowP_len t; omega) (fun b _ => row_ok l t (k + 1) b h1 h2))
end
end Go.Proofs.YtonnimbcekhbgaaGreatDoor

/- KL. -/
namespace Go.Proofs.YtonnimbcekhbgaaGreatDoor
open Go.RowKit

section
variable {cd : Nat → In} {n D bg fr pl : Nat} {text : ByteArray} {t u v : Thr} {s s' s1 : Mc}

theorem runs_nil (hc : Cok cd n D bg) : ∀ (k pl : Nat) (here : List Thr) (s s' : Mc), Runs cd n D text bg k pl here s s' → k + pl = text.size + 1 → fr ≤ pl → (∀ t ∈ here, Way cd text bg fr pl t) → s.left = [] → s.ahead = [] → Vd cd text bg fr s → s'.left = [] ∧ s'.ahead = []
  | 0, pl, here, s, s', h, _, _, _, hl, ha, _ => by rw [show s' = s from h]; exact ⟨hl, ha⟩
  | k + 1, pl, here, s, s', h, hk, hf, hh, hl, ha, hv => by
    rcases h with ⟨_, rfl⟩ | ⟨_, s1, sw, rn⟩
    · exact ⟨hl, ha⟩
    · obtain ⟨a1, a2, a3⟩ := sweep_sound (fr := fr) hc _ s s1 sw (fun z hz => by
        split at hz
        · exact hh z hz
        · rcases List.mem_append.1 hz with e | e
          · exact hh z e
          · rw [List.mem_singleton.1 e]; exact .start pl hf (by omega)) hl (by rw [ha]; intro z hz; cases hz) hv
      exact runs_nil hc k (pl + 1) s1.ahead { s1 with ahead := [] } s' rn (by omega) (by omega) a1 a3 rfl a2

/-- The next place of something from a place on. -/
def nextO (q : Nat → Bool) (N fr : Nat) : Option Nat := (List.range N).find? fun a => decide (fr ≤ a) && q a
theorem nextO_some {q : Nat → Bool} {N fr a : Nat} (h : nextO q N fr = some a) : fr ≤ a ∧ a < N ∧ q a = true ∧ ∀ b, fr ≤ b → b < a → q b = false := by
  unfold nextO at h
  rw [List.find?_range_eq_some] at h
  obtain ⟨h1, h2, h3⟩ := h
  simp at h1 h2
  refine ⟨h1.1, h2, h1.2, fun b hb hba => ?_⟩
  have := h3 b hba
  simpa [hb] using this
theorem nextO_none {q : Nat → Bool} {N fr : Nat} (h : nextO q N fr = none) : ∀ b, fr ≤ b → b < N → q b = false := by
  unfold nextO at h
  rw [List.find?_range_eq_none] at h
  intro b hb hn
  have := h b hn
  simpa [hb] using this
/-- All of them, each from the end of the one ahead on. -/
def occs (q : Nat → Bool) (N L : Nat) : Nat → Nat → List Nat
  | 0, _ => []
  | k + 1, fr => match nextO q N fr with
    | none => []
    | some a => a :: occs q N L k (a + L)

/-- A code whose ways to the end are those of a text of L bytes where q says so, with these notes. -/
structure Fix (cd : Nat → In) (n D bg : Nat) (text : ByteArray) (L : Nat) (q : Nat → Bool) (nt : Nat → Nat → Int) : Prop where
  ok : Cok cd n D bg
  pos : 1 ≤ L
  od : OD cd text bg
  sound : ∀ e t, Way cd text bg 0 e t → (cd t.pc).kind = 6 → ∃ a, q a = true ∧ e = a + L ∧ nu t.x 1 e = nt a ∧ t.x 0 = a
  here : ∀ fr a, fr ≤ a → q a = true → ∃ t, Way cd text bg fr (a + L) t ∧ (cd t.pc).kind = 6 ∧ t.x 0 = a
  lt : ∀ a, q a = true → a + L ≤ text.size
  n0 : ∀ a, nt a 0 = a
  n1 : ∀ a, nt a 1 = ((a + L : Nat) : Int)

theorem Fix.ne {L : Nat} {q : Nat → Bool} {nt : Nat → Nat → Int} (h : Fix cd n D bg text L q nt) : NE cd text bg := fun fr e t w h6 => by
  obtain ⟨a, _, h2, _, h4⟩ := h.sound e t (w.mono (Nat.zero_le _)) h6
  have := h.pos
  rw [h4, h2]; omega

theorem its_fix {L : Nat} {q : Nat → Bool} {nt : Nat → Nat → Int} (h : Fix cd n D bg text L q nt) : ∀ (k fr : Nat) (s : Mc), text.size + 1 - fr ≤ k → fr ≤ text.size + 1 → s.left = [] → s.ahead = [] → Clean cd n D text bg fr s → ItsP cd n D text bg ((occs q (text.size + 1) L k fr).map nt) fr s
  | 0, fr, s, hk, hfr, hl, ha, cl => by
    intro s' r
    obtain ⟨h1, _, _⟩ := search_ways h.ok h.ne h.od hl ha cl hfr r
    cases hf : s'.fd with
    | false => rfl
    | true =>
      obtain ⟨e, t, w, _⟩ := h1 hf
      have := w.x_ge h.ok
      have := w.x_le h.ok
      have := w.le
      omega
  | k + 1, fr, s, hk, hfr, hl, ha, cl => by
    have hb0 : ∀ b, q b = true → b < text.size + 1 := fun b hb => by have := h.lt b hb; omega
    unfold occs
    cases hn : nextO q (text.size + 1) fr with
    | none =>
      intro s' r
      obtain ⟨h1, _, _⟩ := search_ways h.ok h.ne h.od hl ha cl hfr r
      cases hf : s'.fd with
      | false => rfl
      | true =>
        obtain ⟨e, t, w, h6, _⟩ := h1 hf
        obtain ⟨a, qa, _, _, xa⟩ := h.sound e t (w.mono (Nat.zero_le _)) h6
        have := w.x_ge h.ok
        rw [nextO_none hn a (by omega) (hb0 a qa)] at qa
        cases qa
    | some a =>
      obtain ⟨n1, n2, n3, n4⟩ := nextO_some hn
      intro s' r
      obtain ⟨h1, h2, h3⟩ := search_ways h.ok h.ne h.od hl ha cl hfr r
      obtain ⟨t, w, h6, xt⟩ := h.here fr a n1 n3
      obtain ⟨hf, hle, hlong⟩ := h2 _ _ w h6
      obtain ⟨e', t', w', h6', hbest⟩ := h1 hf
      obtain ⟨a', qa', ee', hnt, xa'⟩ := h.sound e' t' (w'.mono (Nat.zero_le _)) h6'
      have hb : s'.best = nt a' := by rw [hbest]; exact hnt
      have ha' : a' = a := by
        have h0 : s'.best 0 = a' := by rw [hb]; exact h.n0 a'
        have hge := w'.x_ge h.ok
        have hle' : a' ≤ a := by omega
        rcases Nat.lt_or_ge a' a with z | z
        · rw [n4 a' (by omega) z] at qa'; cases qa'
        · omega
      subst ha'
      have b1 : s'.best 1 = ((a' + L : Nat) : Int) := by rw [hb]; exact h.n1 a'
      obtain ⟨c1, c2, c3⟩ := h3 hf (a' + L) b1
      obtain ⟨d1, d2⟩ := runs_nil (fr := fr) h.ok _ fr [] _ s' r (by omega) (Nat.le_refl _) (fun t ht => by cases ht) hl ha (fun hf => by cases hf)
      exact ⟨hf, hb, a' + L, h.n1 a', c1, by omega, its_fix h k (a' + L) s' (by omega) (by omega) d1 d2 c3⟩

theorem Way.from_ {fr0 : Nat} (hc : Cok cd n D bg) (h : Way cd text bg fr0 pl t) : (fr : Int) ≤ t.x 0 → Way cd text bg fr pl t := by
  induction h with
  | start a h h2 => exact fun hx => .start a (by simp [nz] at hx; omega) h2
  | eps w hu ih => exact fun hx => .eps (ih (by rw [eps_x hc (w.ok hc) hu] at hx; exact hx)) hu
  | byte w hb ih => exact fun hx => .byte (ih hx) hb
theorem clean0 : Clean cd n D text bg fr mc0 := fun _ _ _ => rfl

/-- A row of bytes. -/
theorem fix_row {ms : Nat → Nat → Bool} {L : Nat} {q : Nat → Bool} (hc : Cok cd n D (0 + L + 0)) (ch : Chain cd 0 0 L ms) (hL : 1 ≤ L) (hq : ∀ a, q a = true ↔ Stands 0 0 L ms text a) : Fix cd n D (0 + L + 0) text L q (fun a => nu (nz a) 1 ((a + L : Nat) : Int)) := by
  have cw : ∀ pl t, Way cd text (0 + L + 0) 0 pl t → ∃ a j, j ≤ L ∧ pl = a + j ∧ t.x = nz a ∧ t.pc = L - j := fun pl t w => by
    rcases chain_way ch w with ⟨e, _⟩ | ⟨a, j, h1, _, h2, _, h3, h4⟩ | ⟨e, _⟩
    · omega
    · exact ⟨a, j, h1, h2, h3, by omega⟩
    · omega
  refine ⟨hc, hL, fun pl t u wt wu sm => ?_, fun e t w h6 => ?_, fun fr a hfr qa => ?_, fun a qa => ((hq a).1 qa).2.1, fun a => ?_, fun a => ?_⟩
  · obtain ⟨a, j, h1, h2, h3, h4⟩ := cw pl t wt
    obtain ⟨a', j', h1', h2', h3', h4'⟩ := cw pl u wu
    have := sm.1
    rw [h3, h3']
    have : a = a' := by omega
    rw [this]
  · obtain ⟨a, st, he, hx⟩ := chain_found ch w h6
    exact ⟨a, (hq a).2 st, he, by rw [hx, he], by rw [hx]; simp [nz]⟩
  · obtain ⟨t, w, h6, hx⟩ := chain_stands ch ((hq a).1 qa)
    refine ⟨t, ?_, h6, by rw [hx]; simp [nz]⟩
    exact w.from_ hc (by rw [hx]; simp [nz]; omega)
  · simp [nu, nz]
  · simp [nu]
end
end Go.Proofs.YtonnimbcekhbgaaGreatDoor
