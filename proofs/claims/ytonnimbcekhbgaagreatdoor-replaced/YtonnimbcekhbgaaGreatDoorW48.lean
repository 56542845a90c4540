/- What the claim needs of: KY. -/
import Derived.Test.YtonnimbcekhbgaaGreatDoorW47
import Derived.Test.YtonnimbcekhbgaaGreatDoorW29

/- KY. -/
namespace Go.Proofs.YtonnimbcekhbgaaGreatDoor
open Go.RowKit

section
variable {x l A0 U : List UInt8} {f : Nat → List UInt8} {c fr a : Nat}
/-- What the law has told so far, behind what it told of the lines ahead. -/
def Ac (x l : List UInt8) (f : Nat → List UInt8) (A0 : List UInt8) (c fr : Nat) (U : List UInt8) : Prop := ∃ acc, U = A0 ++ acc ∧ Lp x l f c fr acc ∧ acc.length ≤ 3 * fr
theorem Ac.start : Ac x l f A0 0 0 A0 := ⟨[], by simp, .start, by simp⟩
theorem Ac.step (hx : 1 ≤ x.length) (h : Ac x l f A0 c fr U) (hf : (f c).length ≤ 3 * x.length) (hn : nextO (qx x l) (l.length + 1) fr = some a) : Ac x l f A0 (c + 1) (a + x.length) (U ++ (l.take a).drop fr ++ f c) := by
  obtain ⟨acc, e, hp, hl⟩ := h
  have := (nextO_some hn).1
  refine ⟨acc ++ (l.take a).drop fr ++ f c, by rw [e]; simp, hp.step hx hn, ?_⟩
  simp only [List.length_append, List.length_drop, List.length_take]
  omega
theorem Ac.done (h : Ac x l f A0 c fr U) (hn : nextO (qx x l) (l.length + 1) fr = none) : U ++ l.drop fr = A0 ++ lawT l x.length f (px x l) := by
  obtain ⟨acc, e, hp, _⟩ := h
  rw [hp.done hn, e, List.append_assoc]
theorem Ac.le (h : Ac x l f A0 c fr U) : U.length ≤ A0.length + 3 * fr := by
  obtain ⟨acc, e, _, hl⟩ := h
  rw [e, List.length_append]; omega
def nxV : Option Nat → Int
  | some a => a
  | none => -1
theorem stands_nx (hl : l.length ≤ 1000) (ht : x.length ≤ 1000) (fr : Nat) (hf : fr ≤ 1000) (w : World) : Calls Tryz.prog 13 #[.string (ba l), .string (ba x), .int .i64 fr] w fun e w' => e = .returned (.int .i64 (nxV (nextO (qx x l) (l.length + 1) fr))) ∧ Kp [] w w' := by
  refine (stands_next hl ht fr hf w).mono ?_
  rintro e w' ⟨k, ⟨a, h, he⟩ | ⟨h, he⟩⟩
  · exact ⟨by rw [h]; exact he, k⟩
  · exact ⟨by rw [h]; exact he, k⟩
theorem fB_len (hx : 1 ≤ x.length) (c : Nat) : (fB x c).length ≤ 3 * x.length := by unfold fB; split; (show 1 ≤ _; omega); omega
theorem fC_len {k : Nat} (hx : 1 ≤ x.length) (c : Nat) : (fC k x c).length ≤ 3 * x.length := by unfold fC; split; (show 1 ≤ _; omega); omega
end

abbrev tlA (x : List UInt8) : Nat → List UInt8 → List UInt8 := fun _ l => rA x l ++ [10]
abbrev tlB (x : List UInt8) : Nat → List UInt8 → List UInt8 := fun _ l => rB x l ++ [10]
abbrev tlC (k : Nat) (x : List UInt8) : Nat → List UInt8 → List UInt8 := fun _ l => rC k x l ++ [10]
abbrev tlD (x : List UInt8) : Nat → List UInt8 → List UInt8 := fun _ l => rD x l ++ [10]
theorem rep_le {x plain : List UInt8} {holes : List (Nat × Nat)} {all : Bool} {num : Nat} (hp : ∀ sp a, qx x sp a = true → (putN plain sp (ntF x.length a) 0 holes).length ≤ 3 * x.length) (_ : Nat) (l : List UInt8) (_ : 0 < 100) (h : LineOk l) : (repT (qx x) x.length plain holes all num l ++ [10]).length ≤ 1000 := by
  have h1 : (repT (qx x) x.length plain holes all num l).length ≤ 3 * l.length := repT_len (fun _ _ => qx_le (x := x)) hp l
  have h2 := h.1
  rw [List.length_append]
  show (repT (qx x) x.length plain holes all num l).length + 1 ≤ 1000
  omega
theorem rep_told {tl : Nat → List UInt8 → List UInt8} {ls : List (List UInt8)} {k : Nat} (h : ∀ k l, k < 100 → LineOk l → (tl k l).length ≤ 1000) (hl : Lok ls) : (told tl 1 (ls.take k)).length ≤ 13000 := by
  have h1 := told_le (N := 1000) h (ls.take k) 1 (by have := hl.len; rw [List.length_take]; omega) (fun l hm => hl.ok l (List.mem_of_mem_take hm))
  have h2 := hl.len
  rw [List.length_take] at h1
  have : 1000 * min k ls.length ≤ 1000 * 13 := Nat.mul_le_mul_left _ (by omega)
  omega

set_option maxRecDepth 100000 in
set_option maxHeartbeats 16000000 in
theorem replaced_any (A : Option Addr) (n c : Nat) (z : Nat → Int) (y m : Int) (w : World) (hn : n < 9223372036854775808) (hz : NumsIn w A n z) (hx1 : -9223372036854775808 ≤ y) (hx2 : y ≤ 9223372036854775807) (hy1 : -9223372036854775808 ≤ m) (hy2 : m ≤ 9223372036854775807) :
    Calls Tryz.prog 5 #[.slice A n c, .int .i64 y, .int .i64 m] w fun e w' => e = .returned (.bool true) ∧ Kp [] w w' := by
  go_enter Tryz.func5, Tryz.ntmps5
  go_wp2_with fail
  refine (lines_any A n c z w hn hz).mono ?_
  rintro e w1 ⟨v, ls, rfl, L1, hl1, hl13, k1⟩
  clear hz
  obtain ⟨A1, c1, ev, hcell⟩ := L1.form
  have HL := hid L1
  have HK := hid k1
  have LOK := hid (L1.lok hl13)
  subst ev
  have HC := hid hcell
  clear hcell L1 k1
  go_wp2_with fail
  refine (word_any y 3 hx1 hx2 (by omega) (by omega) w1).mono ?_
  rintro e w2 ⟨W, rfl, hW1, hW2, k2⟩
  obtain ⟨x, hxW⟩ : ∃ x, W = ba x := ⟨W.data.toList, rfl⟩
  subst hxW
  have WD : Wd x := ⟨by have := hW2.2; rw [ba_size] at this; exact this, by have := hW2.1; rw [ba_size] at this; omega, fun u hu => hW1 u (by rw [show (ba x).data.toList = x from ba_list x]; exact hu)⟩
  have xl1 := WD.lo
  have xl3 := WD.hi
  have zx := ba_size x
  clear hW1 hW2
  obtain ⟨p1, p2⟩ := pk_bd m 4 (by omega)
  obtain ⟨K, hK⟩ : ∃ K : Nat, pk m 4 + 1 = (K : Int) := ⟨(pk m 4 + 1).toNat, by omega⟩
  have hK1 : 1 ≤ K := by omega
  have hK4 : K ≤ 4 := by omega
  have HPA := hid (pick_any m 4 hy1 hy2 (by omega) (by omega) w2)
  obtain ⟨m', hm'⟩ : ∃ m', pk m 4 = m' := ⟨_, rfl⟩
  rw [hm'] at hK HPA
  clear p1 p2 hm'
  have wK := wrap_i64_nat K (by omega)
  go_wp2_with fail
  refine HPA.out.mono ?_
  rintro e w3 ⟨rfl, rfl⟩
  clear HPA
  go_wp2_with fail
  clear hK wK
  have pA : Hid (∀ k l, k < 100 → LineOk l → (tlA x k l).length ≤ 1000) := hid (fun k l hk h => rep_le (fun _ _ _ => by simp [putN]; omega) 0 l (by omega) h)
  have pB : Hid (∀ k l, k < 100 → LineOk l → (tlB x k l).length ≤ 1000) := hid (fun k l hk h => rep_le (fun _ _ _ => by simp [putN]; omega) 0 l (by omega) h)
  have pC : Hid (∀ k l, k < 100 → LineOk l → (tlC K x k l).length ≤ 1000) := hid (fun k l hk h => rep_le (fun _ _ _ => by simp [putN]; omega) 0 l (by omega) h)
  have pD : Hid (∀ k l, k < 100 → LineOk l → (tlD x k l).length ≤ 1000) := hid (fun k l hk h => rep_le (fun _ _ ha => by rw [putD ha]; simp; omega) 0 l (by omega) h)
  go_loopw [10, 11, 12, 13, 14, 15, 16, 17, 18, 19] (fun sa sb sc sd i _ _ _ _ _ wr => ∃ k : Nat, k ≤ ls.length ∧ i = .int .i64 k ∧ sa = .string (ba (told (tlA x) 1 (ls.take k))) ∧ sb = .string (ba (told (tlB x) 1 (ls.take k))) ∧ sc = .string (ba (told (tlC K x) 1 (ls.take k))) ∧ sd = .string (ba (told (tlD x) 1 (ls.take k))) ∧ Kp [] w3 wr) (fun _ _ _ _ i _ _ _ _ _ _ => ls.length - (intOf i).toNat)
  case atStart => exact ⟨0, by omega, rfl, rfl, rfl, rfl, rfl, Kp.refl _ _⟩
  case round =>
    obtain ⟨k, hk, rfl, rfl, rfl, rfl, rfl, kp⟩ := hrel
    by_cases hkn : k < ls.length
    · obtain ⟨l, hl⟩ : ∃ l, ls[k]? = some l := ⟨_, List.getElem?_eq_getElem hkn⟩
      obtain ⟨g, rfl, hc0⟩ := HC.out k l hl
      have hc := ((k2.trans kp).cell (World.block_lt_of_cell? _ _ hc0) (by simp)).trans hc0
      clear hc0
      obtain ⟨k1, hk1⟩ : ∃ k1 : Nat, (k : Int) + 1 = (k1 : Int) := ⟨k + 1, by omega⟩
      have wk := wrap_i64_nat k1 (by omega)
      obtain ⟨TA, hTA⟩ : ∃ TA, TA = told (tlA x) 1 (ls.take k) := ⟨_, rfl⟩
      obtain ⟨TB, hTB⟩ : ∃ TB, TB = told (tlB x) 1 (ls.take k) := ⟨_, rfl⟩
      obtain ⟨TC, hTC⟩ : ∃ TC, TC = told (tlC K x) 1 (ls.take k) := ⟨_, rfl⟩
      obtain ⟨TD, hTD⟩ : ∃ TD, TD = told (tlD x) 1 (ls.take k) := ⟨_, rfl⟩
      have bA : TA.length ≤ 13000 := by rw [hTA]; exact rep_told pA.out LOK.out
      have bB : TB.length ≤ 13000 := by rw [hTB]; exact rep_told pB.out LOK.out
      have bC : TC.length ≤ 13000 := by rw [hTC]; exact rep_told pC.out LOK.out
      have bD : TD.length ≤ 13000 := by rw [hTD]; exact rep_told pD.out LOK.out
      rw [← hTA, ← hTB, ← hTC, ← hTD]
      have HTA := hid hTA
      have HTB := hid hTB
      have HTC := hid hTC
      have HTD := hid hTD
      have HLk := hid hl
      have hll := (LOK.out.ok l (List.mem_of_getElem? hl)).1
      have zl := ba_size l
      have SN := hid (fun (fr : Nat) (hf : fr ≤ l.length) (w : World) => stands_nx (l := l) (x := x) (by omega) (by omega) fr (by omega) w)
      have SN0 := hid (fun w => SN.out 0 (Nat.zero_le _) w)
      clear hTA hTB hTC hTD hl
      go_wp2_with fail
      refine (SN0.out _).mono ?_
      rintro e w4 ⟨rfl, k4⟩
      have hc4 := (k4.cell (World.block_lt_of_cell? _ _ hc) (by simp)).trans hc
      have kp4 := kp.trans k4
      clear hc k4 kp SN0
      go_wp2_with fail
      go_loopw [10, 11, 12, 13, 15, 16, 17, 18] (fun sa sb sc sd at_ co nx _ ws => ∃ (j fr : Nat) (UA UB UC UD : List UInt8) (o : Option Nat), fr ≤ l.length ∧ j ≤ fr ∧ at_ = .int .i64 fr ∧ co = .int .i64 j ∧ nx = .int .i64 (nxV o) ∧ Hid (o = nextO (qx x l) (l.length + 1) fr) ∧ sa = .string (ba UA) ∧ sb = .string (ba UB) ∧ sc = .string (ba UC) ∧ sd = .string (ba UD) ∧ Hid (Ac x l fA TA j fr UA) ∧ Hid (Ac x l (fB x) TB j fr UB) ∧ Hid (Ac x l (fC K x) TC j fr UC) ∧ Hid (Ac x l (fD x) TD j fr UD) ∧ Kp [] w4 ws) (fun _ _ _ _ at_ _ _ _ _ => l.length + 1 - (intOf at_).toNat)
      case atStart => exact ⟨0, 0, TA, TB, TC, TD, _, Nat.zero_le _, Nat.le_refl _, rfl, rfl, rfl, hid rfl, rfl, rfl, rfl, rfl, hid .start, hid .start, hid .start, hid .start, Kp.refl _ _⟩
      case round =>
        obtain ⟨j, fr, UA, UB, UC, UD, o, hfr, hjf, rfl, rfl, rfl, HO, rfl, rfl, rfl, rfl, HA, HB, HCC, HD, kj⟩ := hrel
        have hcj := (kj.cell (World.block_lt_of_cell? _ _ hc4) (by simp)).trans hc4
        have uA := HA.out.le
        have uB := HB.out.le
        have uC := HCC.out.le
        have uD := HD.out.le
        have tUA := ba_size UA
        have tUB := ba_size UB
        have tUC := ba_size UC
        have tUD := ba_size UD
        cases o with
        | some a =>
          have hno := HO.out.symm
          obtain ⟨n1, n2, n3, n4⟩ := nextO_some hno
          have hal := qx_le (x := x) (sp := l) n3
          have HNO := hid hno
          clear HO hno n3 n4
          rw [show nxV (some a) = (a : Int) from rfl]
          have hpos : (0 : Int) ≤ (a : Int) := by omega
          obtain ⟨j1, hj1⟩ : ∃ j1 : Nat, (j : Int) + 1 = (j1 : Int) := ⟨j + 1, by omega⟩
          have wj := wrap_i64_nat j1 (by omega)
          obtain ⟨f1, hf1⟩ : ∃ f1 : Nat, (a : Int) + (x.length : Int) = (f1 : Int) := ⟨a + x.length, by omega⟩
          have wf := wrap_i64_nat f1 (by omega)
          have ial : a ≤ l.length := by omega
          have hf1l : f1 ≤ l.length := by omega
          obtain ⟨Gp, hGp⟩ : ∃ Gp, Gp = (l.take a).drop fr := ⟨_, rfl⟩
          have xG : (ba l).extract fr a = ba Gp := by rw [ba_extract, hGp]
          have tGp := ba_size Gp
          have lGp : Gp.length ≤ l.length := by rw [hGp, List.length_drop, List.length_take]; omega
          have SN1 := hid (fun w => SN.out f1 hf1l w)
          obtain ⟨UA1, hUA1⟩ : ∃ UA1, UA1 = UA ++ Gp := ⟨_, rfl⟩
          have aUA1 : ba UA ++ ba Gp = ba UA1 := by rw [hUA1]; exact ba_app _ _
          have tUA1 := ba_size UA1
          have lUA1 : UA1.length = UA.length + Gp.length := by rw [hUA1, List.length_append]
          have qUA1 : ¬ 9223372036854775807 < UA.length + Gp.length := by omega
          obtain ⟨UA2, hUA2⟩ : ∃ UA2, UA2 = UA1 ++ [60, 62] := ⟨_, rfl⟩
          have aUA2 : ba UA1 ++ ⟨#[60, 62]⟩ = ba UA2 := by rw [hUA2]; exact ba_app UA1 [60, 62]
          have tUA2 := ba_size UA2
          have lUA2 : UA2.length = UA1.length + 2 := by rw [hUA2, List.length_append]; rfl
          have qUA2 : ¬ 9223372036854775807 < UA1.length + 2 := by omega
          obtain ⟨UD1, hUD1⟩ : ∃ UD1, UD1 = UD ++ Gp := ⟨_, rfl⟩
          have aUD1 : ba UD ++ ba Gp = ba UD1 := by rw [hUD1]; exact ba_app _ _
          have tUD1 := ba_size UD1
          have lUD1 : UD1.length = UD.length + Gp.length := by rw [hUD1, List.length_append]
          have qUD1 : ¬ 9223372036854775807 < UD.length + Gp.length := by omega
          obtain ⟨UD2, hUD2⟩ : ∃ UD2, UD2 = UD1 ++ x := ⟨_, rfl⟩
          have aUD2 : ba UD1 ++ ba x = ba UD2 := by rw [hUD2]; exact ba_app _ _
          have tUD2 := ba_size UD2
          have lUD2 : UD2.length = UD1.length + x.length := by rw [hUD2, List.length_append]
          have qUD2 : ¬ 9223372036854775807 < UD1.length + x.length := by omega
          obtain ⟨UD3, hUD3⟩ : ∃ UD3, UD3 = UD2 ++ [45] := ⟨_, rfl⟩
          have aUD3 : ba UD2 ++ ⟨#[45]⟩ = ba UD3 := by rw [hUD3]; exact ba_app UD2 [45]
          have tUD3 := ba_size UD3
          have lUD3 : UD3.length = UD2.length + 1 := by rw [hUD3, List.length_append]; rfl
          have qUD3 : ¬ 9223372036854775807 < UD2.length + 1 := by omega
          obtain ⟨UD4, hUD4⟩ : ∃ UD4, UD4 = UD3 ++ x := ⟨_, rfl⟩
          have aUD4 : ba UD3 ++ ba x = ba UD4 := by rw [hUD4]; exact ba_app _ _
          have tUD4 := ba_size UD4
          have lUD4 : UD4.length = UD3.length + x.length := by rw [hUD4, List.length_append]
          have qUD4 : ¬ 9223372036854775807 < UD3.length + x.length := by omega
          obtain ⟨UB1, hUB1⟩ : ∃ UB1, UB1 = UB ++ Gp := ⟨_, rfl⟩
          have aUB1 : ba UB ++ ba Gp = ba UB1 := by rw [hUB1]; exact ba_app _ _
          have tUB1 := ba_size UB1
          have lUB1 : UB1.length = UB.length + Gp.length := by rw [hUB1, List.length_append]
          have qUB1 : ¬ 9223372036854775807 < UB.length + Gp.length := by omega
          obtain ⟨UB2, hUB2⟩ : ∃ UB2, UB2 = UB1 ++ [33] := ⟨_, rfl⟩
          have aUB2 : ba UB1 ++ ⟨#[33]⟩ = ba UB2 := by rw [hUB2]; exact ba_app UB1 [33]
          have tUB2 := ba_size UB2
          have lUB2 : UB2.length = UB1.length + 1 := by rw [hUB2, List.length_append]; rfl
          have qUB2 : ¬ 9223372036854775807 < UB1.length + 1 := by omega
          obtain ⟨UB3, hUB3⟩ : ∃ UB3, UB3 = UB1 ++ x := ⟨_, rfl⟩
          have aUB3 : ba UB1 ++ ba x = ba UB3 := by rw [hUB3]; exact ba_app _ _
          have tUB3 := ba_size UB3
          have lUB3 : UB3.length = UB1.length + x.length := by rw [hUB3, List.length_append]
          have qUB3 : ¬ 9223372036854775807 < UB1.length + x.length := by omega
          obtain ⟨UC1, hUC1⟩ : ∃ UC1, UC1 = UC ++ Gp := ⟨_, rfl⟩
          have aUC1 : ba UC ++ ba Gp = ba UC1 := by rw [hUC1]; exact ba_app _ _
          have tUC1 := ba_size UC1
          have lUC1 : UC1.length = UC.length + Gp.length := by rw [hUC1, List.length_append]
          have qUC1 : ¬ 9223372036854775807 < UC.length + Gp.length := by omega
          obtain ⟨UC2, hUC2⟩ : ∃ UC2, UC2 = UC1 ++ [63] := ⟨_, rfl⟩
          have aUC2 : ba UC1 ++ ⟨#[63]⟩ = ba UC2 := by rw [hUC2]; exact ba_app UC1 [63]
          have tUC2 := ba_size UC2
          have lUC2 : UC2.length = UC1.length + 1 := by rw [hUC2, List.length_append]; rfl
          have qUC2 : ¬ 9223372036854775807 < UC1.length + 1 := by omega
          obtain ⟨UC3, hUC3⟩ : ∃ UC3, UC3 = UC1 ++ x := ⟨_, rfl⟩
          have aUC3 : ba UC1 ++ ba x = ba UC3 := by rw [hUC3]; exact ba_app _ _
          have tUC3 := ba_size UC3
          have lUC3 : UC3.length = UC1.length + x.length := by rw [hUC3, List.length_append]
          have qUC3 : ¬ 9223372036854775807 < UC1.length + x.length := by omega
          have ej : j1 = j + 1 := by omega
          have ef : f1 = a + x.length := by omega
          have GA : Hid (Ac x l fA TA j1 f1 UA2) := hid (by rw [ej, ef, hUA2, hUA1, hGp]; exact HA.out.step xl1 (by show 2 ≤ _; omega) HNO.out)
          have GD : Hid (Ac x l (fD x) TD j1 f1 UD4) := hid (by
            have := HD.out.step xl1 (by unfold fD; simp; omega) HNO.out
            rw [ej, ef, hUD4, hUD3, hUD2, hUD1, hGp]
            unfold fD at this ⊢
            simpa using this)
          have GB2 : Hid (j1 = 1 → Ac x l (fB x) TB j1 f1 UB2) := hid (fun h => by
            have := HB.out.step xl1 (fB_len xl1 _) HNO.out
            rw [show fB x j = [33] by unfold fB; rw [if_pos (by omega)]] at this
            rw [hUB2, hUB1, hGp, ef, ej]; exact this)
          have GB3 : Hid (¬ j1 = 1 → Ac x l (fB x) TB j1 f1 UB3) := hid (fun h => by
            have := HB.out.step xl1 (fB_len xl1 _) HNO.out
            rw [show fB x j = x by unfold fB; rw [if_neg (by omega)]] at this
            rw [hUB3, hUB1, hGp, ef, ej]; exact this)
          have GC2 : Hid (K ≤ j1 → Ac x l (fC K x) TC j1 f1 UC2) := hid (fun h => by
            have := HCC.out.step xl1 (fC_len xl1 _) HNO.out
            rw [show fC K x j = [63] by unfold fC; rw [if_pos (by omega)]] at this
            rw [hUC2, hUC1, hGp, ef, ej]; exact this)
          have GC3 : Hid (¬ K ≤ j1 → Ac x l (fC K x) TC j1 f1 UC3) := hid (fun h => by
            have := HCC.out.step xl1 (fC_len xl1 _) HNO.out
            rw [show fC K x j = x by unfold fC; rw [if_neg (by omega)]] at this
            rw [hUC3, hUC1, hGp, ef, ej]; exact this)
          have hj1f : j1 ≤ f1 := by omega
          have hf1f : fr < f1 := by omega
          have hq1 : ((j1 : Int) == 1) = decide (j1 = 1) := by rw [Bool.eq_iff_iff]; simp; omega
          clear ej ef hGp hUA1 lUA1 hUA2 lUA2 hUD1 lUD1 hUD2 lUD2 hUD3 lUD3 hUD4 lUD4 hUB1 lUB1 hUB2 lUB2 hUB3 lUB3 hUC1 lUC1 hUC2 lUC2 hUC3 lUC3
          by_cases h1 : j1 = 1
          · have hq2 : ((j1 : Int) == 1) = true := by rw [hq1]; simpa using h1
            have GB := hid (GB2.out h1)
            have H1 := hid h1
            clear hq1 h1 GB2 GB3
            by_cases h2 : K ≤ j1
            · have GC := hid (GC2.out h2)
              clear GC2 GC3
              go_wp2_with fail
              refine (SN1.out _).mono ?_
              rintro e w5 ⟨rfl, k5⟩
              go_wp2_with fail
              go_round
              case rel => exact ⟨j1, f1, UA2, UB2, UC2, UD4, _, hf1l, hj1f, rfl, rfl, rfl, hid rfl, rfl, rfl, rfl, rfl, GA, GB, GC, GD, kj.trans k5⟩
              case measure => simp [intOf]; omega
            · have GC := hid (GC3.out h2)
              clear GC2 GC3
              go_wp2_with fail
              refine (SN1.out _).mono ?_
              rintro e w5 ⟨rfl, k5⟩
              go_wp2_with fail
              go_round
              case rel => exact ⟨j1, f1, UA2, UB2, UC3, UD4, _, hf1l, hj1f, rfl, rfl, rfl, hid rfl, rfl, rfl, rfl, rfl, GA, GB, GC, GD, kj.trans k5⟩
              case measure => simp [intOf]; omega
          · have hq2 : ((j1 : Int) == 1) = false := by rw [hq1]; simpa using h1
            have GB := hid (GB3.out h1)
            have H1 := hid h1
            clear hq1 h1 GB2 GB3
            by_cases h2 : K ≤ j1
            · have GC := hid (GC2.out h2)
              clear GC2 GC3
              go_wp2_with fail
              refine (SN1.out _).mono ?_
              rintro e w5 ⟨rfl, k5⟩
              go_wp2_with fail
              go_round
              case rel => exact ⟨j1, f1, UA2, UB3, UC2, UD4, _, hf1l, hj1f, rfl, rfl, rfl, hid rfl, rfl, rfl, rfl, rfl, GA, GB, GC, GD, kj.trans k5⟩
              case measure => simp [intOf]; omega
            · have GC := hid (GC3.out h2)
              clear GC2 GC3
              go_wp2_with fail
              refine (SN1.out _).mono ?_
              rintro e w5 ⟨rfl, k5⟩
              go_wp2_with fail
              go_round
              case rel => exact ⟨j1, f1, UA2, UB3, UC3, UD4, _, hf1l, hj1f, rfl, rfl, rfl, hid rfl, rfl, rfl, rfl, rfl, GA, GB, GC, GD, kj.trans k5⟩
              case measure => simp [intOf]; omega
        | none =>
          rw [show nxV none = -1 from rfl]
          obtain ⟨Rp, hRp⟩ : ∃ Rp, Rp = l.drop fr := ⟨_, rfl⟩
          have xR : (ba l).extract fr l.length = ba Rp := by rw [ba_extract, List.take_length, hRp]
          have tRp := ba_size Rp
          have lRp : Rp.length ≤ l.length := by rw [hRp, List.length_drop]; omega
          obtain ⟨R1, hR1⟩ : ∃ R1, R1 = Rp ++ [10] := ⟨_, rfl⟩
          have aR1 : ba Rp ++ ⟨#[10]⟩ = ba R1 := by rw [hR1]; exact ba_app Rp [10]
          have tR1 := ba_size R1
          have lR1 : R1.length = Rp.length + 1 := by rw [hR1, List.length_append]; rfl
          have qR1 : ¬ 9223372036854775807 < Rp.length + 1 := by omega
          obtain ⟨VA, hVA⟩ : ∃ VA, VA = UA ++ R1 := ⟨_, rfl⟩
          have aVA : ba UA ++ ba R1 = ba VA := by rw [hVA]; exact ba_app _ _
          have tVA := ba_size VA
          have lVA : VA.length = UA.length + R1.length := by rw [hVA, List.length_append]
          have qVA : ¬ 9223372036854775807 < UA.length + R1.length := by omega
          obtain ⟨VB, hVB⟩ : ∃ VB, VB = UB ++ R1 := ⟨_, rfl⟩
          have aVB : ba UB ++ ba R1 = ba VB := by rw [hVB]; exact ba_app _ _
          have tVB := ba_size VB
          have lVB : VB.length = UB.length + R1.length := by rw [hVB, List.length_append]
          have qVB : ¬ 9223372036854775807 < UB.length + R1.length := by omega
          obtain ⟨VC, hVC⟩ : ∃ VC, VC = UC ++ R1 := ⟨_, rfl⟩
          have aVC : ba UC ++ ba R1 = ba VC := by rw [hVC]; exact ba_app _ _
          have tVC := ba_size VC
          have lVC : VC.length = UC.length + R1.length := by rw [hVC, List.length_append]
          have qVC : ¬ 9223372036854775807 < UC.length + R1.length := by omega
          obtain ⟨VD, hVD⟩ : ∃ VD, VD = UD ++ R1 := ⟨_, rfl⟩
          have aVD : ba UD ++ ba R1 = ba VD := by rw [hVD]; exact ba_app _ _
          have tVD := ba_size VD
          have lVD : VD.length = UD.length + R1.length := by rw [hVD, List.length_append]
          have qVD : ¬ 9223372036854775807 < UD.length + R1.length := by omega
          have hek : k1 = k + 1 := by omega
          have EA : Hid (VA = told (tlA x) 1 (ls.take k1)) := hid (by
            rw [hek, List.take_add_one, HLk.out, Option.toList_some, told_snoc, ← HTA.out, hVA, hR1, hRp, ← List.append_assoc, HA.out.done HO.out.symm, lawA, List.append_assoc])
          have EB : Hid (VB = told (tlB x) 1 (ls.take k1)) := hid (by
            rw [hek, List.take_add_one, HLk.out, Option.toList_some, told_snoc, ← HTB.out, hVB, hR1, hRp, ← List.append_assoc, HB.out.done HO.out.symm, lawB, List.append_assoc])
          have EC : Hid (VC = told (tlC K x) 1 (ls.take k1)) := hid (by
            rw [hek, List.take_add_one, HLk.out, Option.toList_some, told_snoc, ← HTC.out, hVC, hR1, hRp, ← List.append_assoc, HCC.out.done HO.out.symm, lawC, List.append_assoc])
          have ED : Hid (VD = told (tlD x) 1 (ls.take k1)) := hid (by
            rw [hek, List.take_add_one, HLk.out, Option.toList_some, told_snoc, ← HTD.out, hVD, hR1, hRp, ← List.append_assoc, HD.out.done HO.out.symm, lawD, List.append_assoc])
          clear hek hRp hR1 lR1 hVA lVA hVB lVB hVC lVC hVD lVD
          go_wp2_with fail
          go_round
          case rel => exact ⟨k1, by omega, rfl, by rw [← EA.out], by rw [← EB.out], by rw [← EC.out], by rw [← ED.out], kp4.trans kj⟩
          case measure => simp [intOf]; omega
    · have e : k = ls.length := by omega
      subst e
      rw [List.take_length]
      have LR := hid (HL.out.keep (k2.trans kp))
      have KW := hid (HK.out.trans (k2.trans kp))
      have W1 := hid (fun w' (L : Lns w.heap.size w' (.slice A1 ls.length c1) ls) => whole_any L (by omega))
      obtain ⟨E1, hE1⟩ : ∃ E1, (⟨#[115, 47]⟩ : ByteArray) ++ ba x = E1 := ⟨_, rfl⟩
      obtain ⟨E2, hE2⟩ : ∃ E2, E1 ++ (⟨#[47, 60, 62, 47, 103]⟩ : ByteArray) = E2 := ⟨_, rfl⟩
      obtain ⟨E3, hE3⟩ : ∃ E3, E1 ++ (⟨#[47, 33, 47]⟩ : ByteArray) = E3 := ⟨_, rfl⟩
      obtain ⟨E4, hE4⟩ : ∃ E4, E1 ++ (⟨#[47, 63, 47]⟩ : ByteArray) = E4 := ⟨_, rfl⟩
      obtain ⟨E5, hE5⟩ : ∃ E5, E4 ++ dg K = E5 := ⟨_, rfl⟩
      obtain ⟨E6, hE6⟩ : ∃ E6, E5 ++ (⟨#[103]⟩ : ByteArray) = E6 := ⟨_, rfl⟩
      obtain ⟨F1, hF1⟩ : ∃ F1, (⟨#[115, 47, 40]⟩ : ByteArray) ++ ba x = F1 := ⟨_, rfl⟩
      obtain ⟨F2, hF2⟩ : ∃ F2, F1 ++ (⟨#[41, 47, 92, 49, 45, 38, 47, 103]⟩ : ByteArray) = F2 := ⟨_, rfl⟩
      have hdg : dg K = ba [(48 + K).toUInt8] := by unfold dg; rw [if_pos (by omega)]; rfl
      have z1 : E1.size = 2 + x.length := by rw [← hE1, ByteArray.size_append, zx]; rfl
      have z4 : E4.size = 2 + x.length + 3 := by rw [← hE4, ByteArray.size_append, z1]; rfl
      have zd : (dg K).size = 1 := by rw [hdg, ba_size]; rfl
      have z5 : E5.size = 2 + x.length + 3 + 1 := by rw [← hE5, ByteArray.size_append, z4, zd]
      have y1 : F1.size = 3 + x.length := by rw [← hF1, ByteArray.size_append, zx]; rfl
      have o1 : ¬ 9223372036854775807 < 2 + x.length := by omega
      have o2 : ¬ 9223372036854775807 < 2 + x.length + 5 := by omega
      have o3 : ¬ 9223372036854775807 < 2 + x.length + 3 := by omega
      have o4 : ¬ 9223372036854775807 < 2 + x.length + 3 + 1 := by omega
      have o5 : ¬ 9223372036854775807 < 2 + x.length + 3 + 1 + 1 := by omega
      have o6 : ¬ 9223372036854775807 < 3 + x.length := by omega
      have o7 : ¬ 9223372036854775807 < 3 + x.length + 8 := by omega
      have a1 : (⟨#[115, 47]⟩ : ByteArray) = ba [115, 47] := rfl
      have a2 : (⟨#[47, 60, 62, 47, 103]⟩ : ByteArray) = ba [47, 60, 62, 47, 103] := rfl
      have a3 : (⟨#[47, 33, 47]⟩ : ByteArray) = ba [47, 33, 47] := rfl
      have a4 : (⟨#[47, 63, 47]⟩ : ByteArray) = ba [47, 63, 47] := rfl
      have a5 : (⟨#[103]⟩ : ByteArray) = ba [103] := rfl
      have a6 : (⟨#[115, 47, 40]⟩ : ByteArray) = ba [115, 47, 40] := rfl
      have a7 : (⟨#[41, 47, 92, 49, 45, 38, 47, 103]⟩ : ByteArray) = ba [41, 47, 92, 49, 45, 38, 47, 103] := rfl
      have FA : Hid (E2 = sA x) := hid (by rw [← hE2, ← hE1, a1, a2, ba_app, ba_app]; rfl)
      have FB : Hid (E3 = sB x) := hid (by rw [← hE3, ← hE1, a1, a3, ba_app, ba_app]; rfl)
      have FC : Hid (E6 = sC K x) := hid (by rw [← hE6, ← hE5, ← hE4, ← hE1, a1, a4, a5, hdg, ba_app, ba_app, ba_app, ba_app]; unfold sC; congr 1; simp)
      have FD : Hid (F2 = sD x) := hid (by rw [← hF2, ← hF1, a6, a7, ba_app, ba_app]; rfl)
      have DG := hid (fun w => digits_any K (by omega) w)
      have DA := hid (fun w => sdoesA (w := w) WD LOK.out rfl)
      have DB := hid (fun w => sdoesB (w := w) WD LOK.out rfl)
      have DC := hid (fun w => sdoesC (w := w) WD hK1 hK4 LOK.out rfl)
      have DD := hid (fun w => sdoesD (w := w) WD LOK.out rfl)
      rw [← FA.out] at DA
      rw [← FB.out] at DB
      rw [← FC.out] at DC
      rw [← FD.out] at DD
      clear a1 a2 a3 a4 a5 a6 a7 hdg hkn hk
      go_wp2_with fail
      refine (W1.out _ LR.out).mono ?_
      rintro e w4 ⟨rfl, rfl⟩
      go_wp2_with fail
      refine (DA.out _).mono ?_
      rintro e w5 ⟨rfl, k5⟩
      go_wp2_with fail
      refine (DB.out _).mono ?_
      rintro e w6 ⟨rfl, k6⟩
      go_wp2_with fail
      refine (DG.out _).mono ?_
      rintro e w7 ⟨rfl, k7⟩
      go_wp2_with fail
      refine (DC.out _).mono ?_
      rintro e w8 ⟨rfl, k8⟩
      go_wp2_with fail
      refine (DD.out _).mono ?_
      rintro e w9 ⟨rfl, k9⟩
      go_wp2_with fail
      go_ret
      exact ⟨rfl, KW.out.trans (k5.trans (k6.trans (k7.trans (k8.trans k9))))⟩
end Go.Proofs.YtonnimbcekhbgaaGreatDoor
