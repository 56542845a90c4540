/- What the claim needs of: HM FT. -/
import Derived.Test.YtonnimbcekhbgaaGreatDoorX48
import Derived.Test.YtonnimbcekhbgaaGreatDoorX20
import Derived.Test.YtonnimbcekhbgaaGreatDoorRows
import Derived.ProofKit
import Derived.LaidMore
import Derived.Lay
import Derived.OpenShut
import Derived.Stop.Joined
import Derived.Carry

/- HM. -/
namespace Go.Proofs.YtonnimbcekhbgaaGreatDoor
open Go.RowKit

section
variable {ls : List (List UInt8)} {w : World}
/-- Lines from the last to the first. -/
def upL (ls : List (List UInt8)) : List UInt8 := ls.foldl (fun u l => l ++ 10 :: u) []
theorem upL_snoc (ls : List (List UInt8)) (l : List UInt8) : upL (ls ++ [l]) = l ++ 10 :: upL ls := by unfold upL; rw [List.foldl_append]; rfl
theorem upL_len (ls : List (List UInt8)) : (upL ls).length = (wh ls).length := by
  have : ∀ (ls : List (List UInt8)) (u : List UInt8), (ls.foldl (fun u l => l ++ 10 :: u) u).length = u.length + (wh ls).length := by
    intro ls
    induction ls with
    | nil => intro u; rfl
    | cons l ls ih =>
      intro u
      rw [List.foldl_cons, ih, wh_cons]
      simp; omega
  have := this ls []
  simpa [upL] using this
theorem upH_fold : ∀ (ls : List (List UInt8)) (k : Nat) (H : List UInt8), 1 ≤ k → upH k H ls ++ [10] = ls.foldl (fun u l => l ++ 10 :: u) (H ++ [10])
  | [], _, _, _ => rfl
  | l :: ls, k, H, hk => by
    show upH (k + 1) (if k + 1 = 1 then l else l ++ 10 :: H) ls ++ [10] = _
    rw [if_neg (by omega), upH_fold ls (k + 1) _ (by omega)]
    simp
theorem upH_upL (h : ls ≠ []) : upH 0 [] ls ++ [10] = upL ls := by
  cases ls with
  | nil => exact absurd rfl h
  | cons l ls =>
    show upH 1 l ls ++ [10] = _
    rw [upH_fold ls 1 l (by omega)]
    rfl

/-- Lines, each with something behind it. -/
def sepS (f : Nat → List UInt8) : Nat → List (List UInt8) → List UInt8
  | _, [] => []
  | i, l :: r => l ++ f i ++ sepS f (i + 1) r
theorem sepS_snoc (f : Nat → List UInt8) (l : List UInt8) : ∀ (xs : List (List UInt8)) (i : Nat), sepS f i (xs ++ [l]) = sepS f i xs ++ (l ++ f (i + xs.length))
  | [], i => by simp [sepS]
  | x :: xs, i => by
    show x ++ f i ++ sepS f (i + 1) (xs ++ [l]) = x ++ f i ++ sepS f (i + 1) xs ++ _
    rw [sepS_snoc f l xs, List.length_cons, show i + 1 + xs.length = i + (xs.length + 1) by omega]
    simp
theorem sepS_len (f : Nat → List UInt8) (hf : ∀ i, (f i).length ≤ 1) : ∀ (xs : List (List UInt8)) (i : Nat), (sepS f i xs).length ≤ (wh xs).length
  | [], _ => Nat.le_refl _
  | x :: xs, i => by
    have := sepS_len f hf xs (i + 1)
    have := hf i
    rw [wh_cons]
    show (x ++ f i ++ sepS f (i + 1) xs).length ≤ _
    simp; omega
def fAll (n i : Nat) : List UInt8 := if i + 1 < n then [44] else []
def fPr (n i : Nat) : List UInt8 := if i % 2 = 0 ∧ i + 1 < n then [43] else [10]
theorem fAll_len (n i : Nat) : (fAll n i).length ≤ 1 := by unfold fAll; split <;> simp
theorem fPr_len (n i : Nat) : (fPr n i).length ≤ 1 := by unfold fPr; split <;> simp
theorem pairs_sep (n : Nat) : ∀ (ls : List (List UInt8)) (i : Nat), i % 2 = 0 → n = i + ls.length → pairsF ls = sepS (fPr n) i ls
  | [], _, _, _ => rfl
  | [l], i, hi, hn => by
    have : fPr n i = [10] := by unfold fPr; rw [if_neg (by simp at hn; omega)]
    simp [pairsF, sepS, this]
  | l :: m :: r, i, hi, hn => by
    have h1 : fPr n i = [43] := by unfold fPr; rw [if_pos (by simp at hn; omega)]
    have h2 : fPr n (i + 1) = [10] := by unfold fPr; rw [if_neg (by omega)]
    have := pairs_sep n r (i + 1 + 1) (by omega) (by simp at hn; omega)
    show l ++ 43 :: m ++ [10] ++ pairsF r = l ++ fPr n i ++ (m ++ fPr n (i + 1) ++ sepS (fPr n) (i + 1 + 1) r)
    rw [h1, h2, ← this]
    simp
theorem all_sep (n : Nat) : ∀ (ls : List (List UInt8)) (sp : List UInt8) (i : Nat), (∀ l ∈ ls, (10 : UInt8) ∉ l) → n = i + 1 + ls.length → (joinN sp ls).map (subF 44) = sp.map (subF 44) ++ fAll n i ++ sepS (fAll n) (i + 1) ls
  | [], sp, i, _, hn => by
    have : fAll n i = [] := by unfold fAll; rw [if_neg (by simp at hn; omega)]
    simp [joinN, sepS, this]
  | l :: ls, sp, i, hl, hn => by
    have h1 : fAll n i = [44] := by unfold fAll; rw [if_pos (by simp at hn; omega)]
    show (joinN (sp ++ 10 :: l) ls).map (subF 44) = sp.map (subF 44) ++ fAll n i ++ (l ++ fAll n (i + 1) ++ sepS (fAll n) (i + 1 + 1) ls)
    rw [all_sep n ls (sp ++ 10 :: l) (i + 1) (fun x hx => hl x (by simp [hx])) (by simp at hn; omega), h1, List.map_append, List.map_cons, subF_id (hl l (by simp)), show subF 44 10 = 44 from rfl]
    simp

theorem does_uA (hl : Lok ls) (h0 : ls ≠ []) : Calls Tryz.prog 12 #[.string uA, .string (ba (wh ls)), .string (ba (upL ls)), .int .i64 0] w fun r w' => r = .returned (.bool true) ∧ Kp [] w w' := by
  have h1 := hl.len
  have h2 := hl.size
  have h3 := upL_len ls
  refine doesG (ah := true) (st := 0) scriptA (by rw [ba_size]; omega) (by omega) (fun σ σ' _ hF => ⟨by rw [hF.ns]; simp, by rw [hF.ranges]; omega, ?_, ?_⟩)
  · obtain ⟨c0, c1, c2, hcs, hA0, hP1, hA2⟩ := hF.ex
    refine knows_last (i := 2) (by rw [hcs]; simp) (by rw [hcs]; rfl) hA2 (fun j d hj hd => ?_)
    rw [hcs] at hd
    match j, hj, hd with
    | 0, _, hd => injection hd with hd; subst hd; exact ⟨71, by omega, by omega, hA0.c3, .inr ⟨true, 1, hA0⟩⟩
    | 1, _, hd => injection hd with hd; subst hd; exact ⟨104, by omega, by omega, hP1.c3, .inl hP1.c0⟩
  · obtain ⟨ls', M, rfl⟩ : ∃ ls' M, ls = ls' ++ [M] := ⟨ls.dropLast, ls.getLast h0, (List.dropLast_concat_getLast h0).symm⟩
    rw [← upH_upL h0]
    exact acts_a hF (fun l hm => hl.line l hm) (by simp at h1; omega) (by omega)
theorem does_uC (hl : Lok ls) (h0 : ls ≠ []) : Calls Tryz.prog 12 #[.string uC, .string (ba (wh ls)), .string (ba (pairsF ls)), .int .i64 0] w fun r w' => r = .returned (.bool true) ∧ Kp [] w w' := by
  have h1 := hl.len
  have h2 := hl.size
  have h3 := pairsF_len ls
  refine doesG (ah := true) (st := 0) scriptC (by rw [ba_size]; omega) (by omega) (fun σ σ' _ hF => ⟨by rw [hF.ns]; simp, by rw [hF.ranges]; omega, ?_, ?_⟩)
  · obtain ⟨c0, c1, hcs, hA0, hS1⟩ := hF.ex
    exact knows_last (i := 0) (by rw [hcs]; simp) (by rw [hcs]; rfl) hA0 (fun j d hj hd => absurd hj (by omega))
  · exact acts_c hF h0 (fun l hm => hl.line l hm) (by omega) (by omega)
theorem does_uB {l0 : List UInt8} (hl : Lok (l0 :: ls)) : Calls Tryz.prog 12 #[.string uB, .string (ba (wh (l0 :: ls))), .string (ba ((joinN l0 ls).map (subF 44) ++ [10])), .int .i64 0] w fun r w' => r = .returned (.bool true) ∧ Kp [] w w' := by
  have h1 := hl.len
  have h2 := hl.size
  have h3 := joinN_len ls l0
  rw [wh_cons, List.length_append, List.length_cons] at h2
  refine doesG (ah := true) (st := 0) scriptB (by rw [ba_size, wh_cons, List.length_append, List.length_cons]; omega) (by simp; omega) (fun σ σ' _ hF => ⟨by rw [hF.ns]; simp, by rw [hF.ranges]; omega, ?_, ?_⟩)
  · obtain ⟨c0, c1, c2, c3, c4, c5, hcs, hP0, ⟨hA1, _⟩, _⟩ := hF.ex
    refine knows_last (i := 1) (by rw [hcs]; simp) (by rw [hcs]; rfl) hA1 (fun j d hj hd => ?_)
    rw [hcs] at hd
    match j, hj, hd with
    | 0, _, hd => injection hd with hd; subst hd; exact ⟨58, by omega, by omega, hP0.c3, .inl hP0.c0⟩
  · exact acts_b hF (fun l hm => hl.line l hm) (by simp at h1; omega) (by rw [wh_cons, List.length_append, List.length_cons]; omega)
/-- .. as the law tells it. -/
theorem does_uB' (hl : Lok ls) (h0 : ls ≠ []) : Calls Tryz.prog 12 #[.string uB, .string (ba (wh ls)), .string (ba (sepS (fAll ls.length) 0 ls ++ [10])), .int .i64 0] w fun r w' => r = .returned (.bool true) ∧ Kp [] w w' := by
  cases ls with
  | nil => exact absurd rfl h0
  | cons l0 ls =>
    have e : sepS (fAll (l0 :: ls).length) 0 (l0 :: ls) = (joinN l0 ls).map (subF 44) := by
      rw [all_sep (l0 :: ls).length ls l0 0 (fun l hm => (hl.line l (by simp [hm])).1) (by simp; omega), subF_id (hl.line l0 (by simp)).1]
      rfl
    rw [e]
    exact does_uB hl
theorem does_uC' (hl : Lok ls) (h0 : ls ≠ []) : Calls Tryz.prog 12 #[.string uC, .string (ba (wh ls)), .string (ba (sepS (fPr ls.length) 0 ls)), .int .i64 0] w fun r w' => r = .returned (.bool true) ∧ Kp [] w w' := by
  rw [← pairs_sep ls.length ls 0 rfl (by omega)]
  exact does_uC hl h0
theorem wh_take_le (k : Nat) : ∀ ls : List (List UInt8), (wh (ls.take k)).length ≤ (wh ls).length := fun ls => by
  have : wh ls = wh (ls.take k) ++ wh (ls.drop k) := by
    unfold wh
    rw [← List.flatMap_append, List.take_append_drop]
  rw [this, List.length_append]; omega
end

set_option maxRecDepth 100000 in
set_option maxHeartbeats 16000000 in
theorem upside_any (A : Option Addr) (n c : Nat) (z : Nat → Int) (w : World) (hn : n < 9223372036854775808) (hz : NumsIn w A n z) :
    Calls Tryz.prog 7 #[.slice A n c] w fun e w' => e = .returned (.bool true) ∧ Kp [] w w' := by
  go_enter Tryz.func7, Tryz.ntmps7
  go_wp2_with fail
  refine (lines_any A n c z w hn hz).mono ?_
  rintro e w1 ⟨v, ls, rfl, L1, hl1, hl13, k1⟩
  clear hz
  obtain ⟨A1, c1, ev, hcell⟩ := L1.form
  have HL := hid L1
  have HK := hid k1
  have LOK := hid (L1.lok hl13)
  have H0 : Hid (ls ≠ []) := hid (fun e => by rw [e] at hl1; simp at hl1)
  have HWH := hid LOK.out.size
  subst ev
  have HC := hid hcell
  clear hcell L1 k1
  obtain ⟨N, hN⟩ : ∃ N, N = ls.length := ⟨_, rfl⟩
  have DA := hid (fun w => does_uA (w := w) LOK.out H0.out)
  have DB := hid (fun w => does_uB' (w := w) LOK.out H0.out)
  have DC := hid (fun w => does_uC' (w := w) LOK.out H0.out)
  have W1 := hid (fun w' (L : Lns w.heap.size w' (.slice A1 ls.length c1) ls) => whole_any L (by omega))
  rw [← hN] at DB DC W1 hl1 hl13 ⊢
  have HN := hid hN
  clear hN
  go_wp2_with fail
  go_loopw [4, 5, 6, 7] (fun su sa sp i wr => ∃ k : Nat, k ≤ N ∧ i = .int .i64 k ∧ su = .string (ba (upL (ls.take k))) ∧ sa = .string (ba (sepS (fAll N) 0 (ls.take k))) ∧ sp = .string (ba (sepS (fPr N) 0 (ls.take k))) ∧ wr = w1) (fun _ _ _ i _ => N - (intOf i).toNat)
  case atStart => exact ⟨0, by omega, rfl, rfl, rfl, rfl, rfl⟩
  case round =>
    obtain ⟨k, hk, rfl, rfl, rfl, rfl, rfl⟩ := hrel
    by_cases hkn : k < N
    · obtain ⟨l, hl⟩ : ∃ l, ls[k]? = some l := ⟨_, List.getElem?_eq_getElem (by rw [← HN.out]; exact hkn)⟩
      obtain ⟨g, rfl, hc⟩ := HC.out k l hl
      obtain ⟨k1, hk1⟩ : ∃ k1 : Nat, (k : Int) + 1 = (k1 : Int) := ⟨k + 1, by omega⟩
      have wk := wrap_i64_nat k1 (by omega)
      obtain ⟨N1, hN1⟩ : ∃ N1 : Nat, (N : Int) - 1 = (N1 : Int) := ⟨N - 1, by omega⟩
      have wN := wrap_i64_nat N1 (by omega)
      obtain ⟨r2, hr2⟩ : ∃ r2 : Nat, r2 = k % 2 := ⟨_, rfl⟩
      have hmod : (k : Int).tmod 2 = (r2 : Int) := by rw [Int.tmod_eq_emod_of_nonneg (by omega)]; omega
      have wr2 := wrap_i64_nat r2 (by omega)
      obtain ⟨TU, hTU⟩ : ∃ TU, TU = upL (ls.take k) := ⟨_, rfl⟩
      obtain ⟨TA, hTA⟩ : ∃ TA, TA = sepS (fAll N) 0 (ls.take k) := ⟨_, rfl⟩
      obtain ⟨TP, hTP⟩ : ∃ TP, TP = sepS (fPr N) 0 (ls.take k) := ⟨_, rfl⟩
      have hwk := wh_take_le k ls
      have bU : TU.length ≤ 2000 := by rw [hTU, upL_len]; have := HWH.out; omega
      have bA : TA.length ≤ 2000 := by rw [hTA]; have := sepS_len (fAll N) (fAll_len N) (ls.take k) 0; have := HWH.out; omega
      have bP : TP.length ≤ 2000 := by rw [hTP]; have := sepS_len (fPr N) (fPr_len N) (ls.take k) 0; have := HWH.out; omega
      rw [← hTU, ← hTA, ← hTP]
      have hll := (LOK.out.ok l (List.mem_of_getElem? hl)).1
      have zl := ba_size l
      have tTU := ba_size TU
      have tTA := ba_size TA
      have tTP := ba_size TP
      obtain ⟨U1, hU1⟩ : ∃ U1, U1 = l ++ [10] := ⟨_, rfl⟩
      have aU1 : ba l ++ ⟨#[10]⟩ = ba U1 := by rw [hU1]; exact ba_app l [10]
      have tU1 := ba_size U1
      have lU1 : U1.length = l.length + 1 := by rw [hU1, List.length_append]; rfl
      have qU1 : ¬ 9223372036854775807 < l.length + 1 := by omega
      obtain ⟨U2, hU2⟩ : ∃ U2, U2 = U1 ++ TU := ⟨_, rfl⟩
      have aU2 : ba U1 ++ ba TU = ba U2 := by rw [hU2]; exact ba_app _ _
      have tU2 := ba_size U2
      have lU2 : U2.length = U1.length + TU.length := by rw [hU2, List.length_append]
      have qU2 : ¬ 9223372036854775807 < U1.length + TU.length := by omega
      obtain ⟨A2, hA2⟩ : ∃ A2, A2 = TA ++ l := ⟨_, rfl⟩
      have aA2 : ba TA ++ ba l = ba A2 := by rw [hA2]; exact ba_app _ _
      have tA2 := ba_size A2
      have lA2 : A2.length = TA.length + l.length := by rw [hA2, List.length_append]
      have qA2 : ¬ 9223372036854775807 < TA.length + l.length := by omega
      obtain ⟨A3, hA3⟩ : ∃ A3, A3 = A2 ++ [44] := ⟨_, rfl⟩
      have aA3 : ba A2 ++ ⟨#[44]⟩ = ba A3 := by rw [hA3]; exact ba_app A2 [44]
      have tA3 := ba_size A3
      have lA3 : A3.length = A2.length + 1 := by rw [hA3, List.length_append]; rfl
      have qA3 : ¬ 9223372036854775807 < A2.length + 1 := by omega
      obtain ⟨P2, hP2⟩ : ∃ P2, P2 = TP ++ l := ⟨_, rfl⟩
      have aP2 : ba TP ++ ba l = ba P2 := by rw [hP2]; exact ba_app _ _
      have tP2 := ba_size P2
      have lP2 : P2.length = TP.length + l.length := by rw [hP2, List.length_append]
      have qP2 : ¬ 9223372036854775807 < TP.length + l.length := by omega
      obtain ⟨P3, hP3⟩ : ∃ P3, P3 = P2 ++ [43] := ⟨_, rfl⟩
      have aP3 : ba P2 ++ ⟨#[43]⟩ = ba P3 := by rw [hP3]; exact ba_app P2 [43]
      have tP3 := ba_size P3
      have lP3 : P3.length = P2.length + 1 := by rw [hP3, List.length_append]; rfl
      have qP3 : ¬ 9223372036854775807 < P2.length + 1 := by omega
      obtain ⟨P4, hP4⟩ : ∃ P4, P4 = P2 ++ [10] := ⟨_, rfl⟩
      have aP4 : ba P2 ++ ⟨#[10]⟩ = ba P4 := by rw [hP4]; exact ba_app P2 [10]
      have tP4 := ba_size P4
      have lP4 : P4.length = P2.length + 1 := by rw [hP4, List.length_append]; rfl
      have qP4 : ¬ 9223372036854775807 < P2.length + 1 := by omega
      have hek : k1 = k + 1 := by omega
      have htl : (ls.take k).length = k := by rw [List.length_take]; have := HN.out; omega
      have eT : ls.take k1 = ls.take k ++ [l] := by rw [hek, List.take_add_one, hl, Option.toList_some]
      have FU : Hid (U2 = upL (ls.take k1)) := hid (by rw [eT, upL_snoc, hU2, hU1, hTU]; simp)
      have FA : Hid (sepS (fAll N) 0 (ls.take k1) = A2 ++ fAll N k) := hid (by rw [eT, sepS_snoc, htl, Nat.zero_add, hA2, hTA, List.append_assoc])
      have FP : Hid (sepS (fPr N) 0 (ls.take k1) = P2 ++ fPr N k) := hid (by rw [eT, sepS_snoc, htl, Nat.zero_add, hP2, hTP, List.append_assoc])
      have GA3 : Hid (A3 = A2 ++ [44]) := hid hA3
      have GP3 : Hid (P3 = P2 ++ [43]) := hid hP3
      have GP4 : Hid (P4 = P2 ++ [10]) := hid hP4
      have HR2 := hid hr2
      clear hek htl eT hTU hTA hTP hwk hl hr2 hU1 lU1 hU2 lU2 hA2 lA2 hA3 lA3 hP2 lP2 hP3 lP3 hP4 lP4
      by_cases hlt : k < N1
      · have fa : Hid (fAll N k = [44]) := hid (by unfold fAll; rw [if_pos (by omega)])
        by_cases hev : r2 = 0
        · have fp : Hid (fPr N k = [43]) := hid (by unfold fPr; rw [if_pos ⟨by rw [← HR2.out]; exact hev, by omega⟩])
          have q2 : ((r2 : Int) == 0) = true := by rw [hev]; rfl
          clear hev
          go_wp2_with fail
          go_round
          case rel => exact ⟨k1, by omega, rfl, by rw [FU.out], by rw [FA.out, fa.out, GA3.out], by rw [FP.out, fp.out, GP3.out], by trivial⟩
          case measure => simp [intOf]; omega
        · have fp : Hid (fPr N k = [10]) := hid (by unfold fPr; rw [if_neg (fun h => hev (by rw [HR2.out]; exact h.1))])
          have q2 : ((r2 : Int) == 0) = false := by rw [beq_eq_false_iff_ne]; omega
          clear hev
          go_wp2_with fail
          go_round
          case rel => exact ⟨k1, by omega, rfl, by rw [FU.out], by rw [FA.out, fa.out, GA3.out], by rw [FP.out, fp.out, GP4.out], by trivial⟩
          case measure => simp [intOf]; omega
      · have fa : Hid (fAll N k = []) := hid (by unfold fAll; rw [if_neg (by omega)])
        have fp : Hid (fPr N k = [10]) := hid (by unfold fPr; rw [if_neg (fun h => by omega)])
        by_cases hev : r2 = 0
        · have q2 : ((r2 : Int) == 0) = true := by rw [hev]; rfl
          clear hev
          go_wp2_with fail
          go_round
          case rel => exact ⟨k1, by omega, rfl, by rw [FU.out], by rw [FA.out, fa.out, List.append_nil], by rw [FP.out, fp.out, GP4.out], by trivial⟩
          case measure => simp [intOf]; omega
        · have q2 : ((r2 : Int) == 0) = false := by rw [beq_eq_false_iff_ne]; omega
          clear hev
          go_wp2_with fail
          go_round
          case rel => exact ⟨k1, by omega, rfl, by rw [FU.out], by rw [FA.out, fa.out, List.append_nil], by rw [FP.out, fp.out, GP4.out], by trivial⟩
          case measure => simp [intOf]; omega
    · have e : k = N := by omega
      subst e
      have eT : ls.take k = ls := by rw [HN.out]; exact List.take_length
      rw [eT]
      obtain ⟨TA, hTA⟩ : ∃ TA, TA = sepS (fAll k) 0 ls := ⟨_, rfl⟩
      have bA : TA.length ≤ 2000 := by rw [hTA]; have := sepS_len (fAll k) (fAll_len k) ls 0; have := HWH.out; omega
      rw [← hTA] at DB ⊢
      have tTA := ba_size TA
      obtain ⟨A2, hA2⟩ : ∃ A2, A2 = TA ++ [10] := ⟨_, rfl⟩
      have aA2 : ba TA ++ ⟨#[10]⟩ = ba A2 := by rw [hA2]; exact ba_app TA [10]
      have tA2 := ba_size A2
      have lA2 : A2.length = TA.length + 1 := by rw [hA2, List.length_append]; rfl
      have qA2 : ¬ 9223372036854775807 < TA.length + 1 := by omega
      rw [← hA2] at DB
      clear eT hTA hA2 lA2 hkn hk
      go_wp2_with fail
      refine (W1.out _ (by have := HL.out; rw [HN.out]; exact this)).mono ?_
      rintro e w4 ⟨rfl, rfl⟩
      go_wp2_with fail
      refine (DA.out _).mono ?_
      rintro e w5 ⟨rfl, k5⟩
      go_wp2_with fail
      refine (DB.out _).mono ?_
      rintro e w6 ⟨rfl, k6⟩
      go_wp2_with fail
      refine (DC.out _).mono ?_
      rintro e w7 ⟨rfl, k7⟩
      go_wp2_with fail
      go_ret
      exact ⟨rfl, HK.out.trans (k5.trans (k6.trans k7))⟩
end Go.Proofs.YtonnimbcekhbgaaGreatDoor

/- FT. -/
namespace Go.Proofs.YtonnimbcekhbgaaGreatDoor
open Go.ChangeShapes Go.WideShapes Go.ChangeAt Go.RowKit

theorem own0 : ownKnob Tryz.prog.godebug = none := by kernel_rfl
theorem wf_i64 {n : Int} (h : (Lit.int .i64 n).wf = true) : -9223372036854775808 ≤ n ∧ n ≤ 9223372036854775807 := by
  simp only [Lit.wf, Bool.and_eq_true, decide_eq_true_eq] at h
  exact ⟨h.1, h.2⟩
abbrev laidK : List (String × DataW Unit) := [("math/bits.deBruijn32tab", Rows.laid_math_bits_deBruijn32tab), ("math/bits.deBruijn64tab", Rows.laid_math_bits_deBruijn64tab), ("internal/strconv.uint64pow10", Rows.laid_internal_strconv_uint64pow10), ("ribbon/pattern.names", Rows.laid_ribbon_pattern_names)]

theorem Tryz.laidOutG : laidOutB Tryz.prog = true := by kernel_rfl
theorem Tryz.cellsInt : Tryz.prog.cellsOf 3 = 1 := by kernel_rfl

set_option maxRecDepth 100000 in
/-- A slice of numbers among the arguments. -/
theorem nums_of {H : Type} {enc : TypeId × Value → H} {W : World} {base : Nat} {v : Value} {d : DataW H} {p : List MemPlace} (hv : Value.okWide Tryz.prog W .any base 22 v) (h : DataW.Trod enc Tryz.prog W 0 (fun _ => true) true 22 v d p) :
    ∃ A n c z, v = .slice A n c ∧ n < 9223372036854775808 ∧ NumsIn W A n z := by
  obtain ⟨a0, len, cap, rfl⟩ := okWide_slice Tryz.underlying22 hv
  obtain ⟨fuel, hf⟩ := h
  rcases open_ints Tryz.underlying22 Tryz.underlying3 Tryz.cellsInt hf with ⟨hcs, hx⟩ | ⟨a, len', cap', zs, hcs, _, hl, hm, hz, hx, hcell, hwz⟩
  · simp [Value.cells] at hcs
    obtain ⟨rfl, rfl, rfl⟩ := hcs
    exact ⟨_, _, _, fun _ => 0, rfl, by omega, ⟨fun j hj => absurd hj (by omega), fun j hj => absurd hj (by omega)⟩⟩
  · simp [Value.cells] at hcs
    obtain ⟨rfl, rfl, rfl⟩ := hcs
    simp only [if_true] at hz
    have hm' : cap ≤ 9223372036854775807 := by simp only [maxLen] at hm; omega
    refine ⟨_, _, _, fun j => zs.getD j 0, rfl, by omega, ⟨fun j hj => ⟨a, rfl, hcell j (by omega)⟩, fun j hj => ?_⟩⟩
    have hj' : j < zs.length := by omega
    exact wf_i64 (hwz _ (by rw [List.getD_eq_getElem?_getD, List.getElem?_eq_getElem hj']; exact List.getElem_mem hj'))
end Go.Proofs.YtonnimbcekhbgaaGreatDoor
