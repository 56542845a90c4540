/- What the claim needs of: KM KO. -/
import Derived.Test.YtonnimbcekhbgaaGreatDoorX08
import Derived.Test.YtonnimbcekhbgaaGreatDoorX10
import Derived.Test.YtonnimbcekhbgaaGreatDoorX06
import Derived.Test.YtonnimbcekhbgaaGreatDoorX19
import Derived.Test.YtonnimbcekhbgaaGreatDoorX33

/- KM. -/
namespace Go.Proofs.YtonnimbcekhbgaaGreatDoor
open Go.RowKit

theorem step_appS {P : Program} {ops : Array Oper} {o : Oper} {a : Act} {w : World} {K : Act → World → Prop} {Q : Exit → Act → World → Prop} {E : Prop} (hgd : o.guard = none) (sl x : Operand) (t u : TypeId)
    (ho : o.op = .call { callee := .builtin .append, args := #[sl, x], argTypes := #[t, u] })
    (base : Nat) (e : TypeId) (i : TypeInfo) (ht : P.underlying t = some (.slice e)) (hu : P.underlying u = some .string) (hi : P.info? e = some i) (hz : i.zero = some (.int .u8 0)) (hsize : i.size = 1) (hby : i.bytes = 1)
    (v : Value) (n : Nat) (xs : List Value) (hs : a.eval sl = v) (hown : w.ownsRow base e 1 v n xs) (s : ByteArray) (hx : a.eval x = .string s) (h63 : n + s.size ≤ 1000000) (hbase : base ≤ w.heap.size)
    (h : ∀ v' w', w'.ownsRow base e 1 v' (n + s.size) (xs ++ Lib.byteCells s.data.toList) → w.grownBy w' v.ownBlock → (∀ g, v'.ownBlock = some g → v.ownBlock = some g ∨ w.heap.size ≤ g) → K (a.put o.dst v') w') :
    if Region.wanted o (yielded ops a.tmps) = true then Oper.wp P o a w K Q else E := by
  have hw : Region.wanted o (yielded ops a.tmps) = true := by simp [Region.wanted, hgd]
  rw [if_pos hw]
  obtain ⟨v', w', hr, h2, h3, h4⟩ := run_appS (P := P) (ty := o.type) ht hu hi hz hsize hby hown s h63 hbase
  unfold Oper.wp
  simp [execOp, ho, resolve, invoke, builtin, hs, hx, hr, Result.andThen]
  exact h v' w' h2 h3 h4

/-- What stands there then: the text, with what was found in its holes. -/
def putN (plain sp : List UInt8) (nt : Nat → Nat) : Nat → List (Nat × Nat) → List UInt8
  | d, [] => plain.drop d
  | d, (a, g) :: hs => (plain.take a).drop d ++ ((sp.take (nt (2 * g + 1))).drop (nt (2 * g)) ++ putN plain sp nt a hs)

/-- A row of bytes that grows: what it was, and what else is as it was. -/
structure Grew (lo : Nat) (w : World) (v : Value) (xs : List UInt8) (w' : World) (v' : Value) (ys : List UInt8) : Prop where
  row : w'.ownsRow lo 5 1 v' ys.length (Lib.byteCells ys)
  kp : Kp v.ownBlock.toList w w'
  at_ : ∀ g, v'.ownBlock = some g → v.ownBlock = some g ∨ w.heap.size ≤ g
  lo : lo ≤ w'.heap.size
theorem Grew.refl {lo : Nat} {w : World} {v : Value} {xs : List UInt8} (h : w.ownsRow lo 5 1 v xs.length (Lib.byteCells xs)) (hl : lo ≤ w.heap.size) : Grew lo w v xs w v xs := ⟨h, Kp.refl _ _, fun _ e => .inl e, hl⟩
theorem Grew.keep {lo : Nat} {w w1 w2 : World} {v v1 : Value} {xs ys : List UInt8} (h : Grew lo w v xs w1 v1 ys) (k : Kp [] w1 w2) : Grew lo w v xs w2 v1 ys :=
  ⟨own_block h.row (fun p hp => k.block p (own_lt h.row hp).2 (by simp)), h.kp.trans (k.mono (by simp)), h.at_, Nat.le_trans h.lo k.size⟩
theorem Grew.more {lo : Nat} {w w1 w2 : World} {v v1 v2 : Value} {xs ys zs : List UInt8} (h : Grew lo w v xs w1 v1 ys) (ho : w2.ownsRow lo 5 1 v2 (ys.length + zs.length) (Lib.byteCells ys ++ Lib.byteCells zs)) (hg : w1.grownBy w2 v1.ownBlock) (hl : ∀ g, v2.ownBlock = some g → v1.ownBlock = some g ∨ w1.heap.size ≤ g) : Grew lo w v xs w2 v2 (ys ++ zs) := by
  have e : Lib.byteCells (ys ++ zs) = Lib.byteCells ys ++ Lib.byteCells zs := by simp [Lib.byteCells]
  have kg := kp_of_grown (S := v1.ownBlock.toList) hg (fun p hp => by rw [hp]; simp)
  refine ⟨by rw [e, List.length_append]; exact ho, h.kp.past kg (fun x hx => ?_), fun g e => ?_, Nat.le_trans h.lo hg.size⟩
  · have hx : v1.ownBlock = some x := by simpa using hx
    rcases h.at_ x hx with r | r
    · exact .inl (by simpa using r)
    · exact .inr r
  · rcases hl g e with r | r
    · exact h.at_ g r
    · exact .inr (Nat.le_trans h.kp.size r)
/-- Another's cell is as it was. -/
theorem Grew.cell {lo : Nat} {w w1 : World} {v v1 : Value} {xs ys : List UInt8} (h : Grew lo w v xs w1 v1 ys) {p : Addr} {u : Value} (hc : w.cell? p = some u) (hn : v.ownBlock ≠ some p.block) : w1.cell? p = some u :=
  (h.kp.cell (World.block_lt_of_cell? _ _ hc) (by simpa using hn)).trans hc

section
variable {w w' : World}

set_option maxRecDepth 100000 in
set_option maxHeartbeats 4000000 in
theorem appendNew_v {lo nb no f po m cap hc : Nat} {A : Option Addr} {v : Value} {xs plain sp : List UInt8} {holes : List (Nat × Nat)} {nt : Nat → Nat} (hrow : w.ownsRow lo 5 1 v xs.length (Lib.byteCells xs)) (hlo : lo ≤ w.heap.size) (hx : xs.length ≤ 10000) (hp : plain.length ≤ 2000) (hs : sp.length ≤ 5000) (hh : holes.length ≤ 50)
    (c1 : w.cell? ⟨nb, no + 1, none⟩ = some (.string (ba plain))) (c2 : w.cell? ⟨nb, no + 2, none⟩ = some (.slice A holes.length hc)) (n1 : v.ownBlock ≠ some nb)
    (hH : ∀ (i a g : Nat), holes[i]? = some (a, g) → ∃ hb : Nat, A = some ⟨hb, 0, none⟩ ∧ v.ownBlock ≠ some hb ∧ w.cell? ⟨hb, i * 2, none⟩ = some (.int .i64 a) ∧ w.cell? ⟨hb, i * 2 + 1, none⟩ = some (.int .i64 g) ∧ a ≤ plain.length ∧ 2 * g + 1 < m ∧ nt (2 * g) ≤ nt (2 * g + 1) ∧ nt (2 * g + 1) ≤ sp.length)
    (hO : ∀ (i a g a' g' : Nat), holes[i]? = some (a, g) → holes[i + 1]? = some (a', g') → a ≤ a') (n2 : v.ownBlock ≠ some f) (hP : ∀ j, j < m → w.cell? ⟨f, po + j, none⟩ = some (.int .i64 (nt j))) (hm : m ≤ 20) :
    Calls Tryz.prog 123 #[v, .pointer (some ⟨nb, no, none⟩), .string (ba sp), .slice (some ⟨f, po, none⟩) m cap] w fun r w' => ∃ v', r = .returned v' ∧ Grew lo w v xs w' v' (xs ++ putN plain sp nt 0 holes) := by
  obtain ⟨i0, hi, hz0, hz1, hz2⟩ := info_parts Tryz.infoByte
  have HI := hid (And.intro hi (And.intro hz0 (And.intro hz1 hz2)))
  have HH := hid hH
  have HO := hid hO
  have HP := hid hP
  have HC1 := hid c1
  have G0 := hid (Grew.refl hrow hlo)
  clear hi hz0 hz1 hz2 hH hO hP hrow c1
  go_enter Tryz.func123, Tryz.ntmps123
  go_wp2_with fail
  clear c2
  go_loopw [0, 9, 11, 12, 13, 19] (fun va vd _ _ _ vk wr => ∃ (k d : Nat) (ys : List UInt8), vk = .int .i64 k ∧ vd = .int .i64 d ∧ k ≤ holes.length ∧ d ≤ plain.length ∧ Hid (Grew lo w v xs wr va ys) ∧ Hid (ys ++ putN plain sp nt d (holes.drop k) = xs ++ putN plain sp nt 0 holes) ∧ Hid (ys.length ≤ 10000 + k * 10000) ∧ Hid (∀ (a g : Nat), holes[k]? = some (a, g) → d ≤ a)) (fun _ _ _ _ _ vk _ => holes.length - (intOf vk).toNat)
  case atStart => exact ⟨0, 0, xs, rfl, rfl, by omega, by omega, G0, hid (by simp), hid (by omega), hid (fun a g _ => Nat.zero_le _)⟩
  case round =>
    obtain ⟨k, d, ys, rfl, rfl, hk, hd, GR, HE, HY, HD⟩ := hrel
    by_cases hkn : k < holes.length
    · obtain ⟨⟨a, g⟩, hag⟩ : ∃ q, holes[k]? = some q := ⟨_, List.getElem?_eq_getElem hkn⟩
      obtain ⟨hb, rfl, nh, h0, h1, q1, q2, q3, q4⟩ := HH.out k a g hag
      have hda := HD.out a g hag
      have e0 := GR.out.cell h0 nh
      have e1 := GR.out.cell h1 nh
      obtain ⟨k1, hk1⟩ : ∃ k1 : Nat, (k : Int) + 1 = (k1 : Int) := ⟨k + 1, by omega⟩
      have wk := wrap_i64_nat k1 (by omega)
      clear h0 h1
      have zp := ba_size plain
      have zs := ba_size sp
      have hap : a ≤ plain.length := q1
      obtain ⟨P1, hP1⟩ : ∃ P1, P1 = (plain.take a).drop d := ⟨_, rfl⟩
      have x1 : (ba plain).extract d a = ba P1 := by rw [ba_extract, hP1]
      have lP1 : P1.length ≤ 2000 := by rw [hP1, List.length_drop, List.length_take]; omega
      have zP1 := ba_size P1
      have HPP1 := hid hP1
      clear hP1
      have ka := Kp.alloc [] wr (.cells #[.int .i64 a, .int .i64 g] 152)
      have BT := Bl.alloc wr [.int .i64 a, .int .i64 g] 152
      have G1 := hid (GR.out.keep ka)
      have hut : u0.ownBlock ≠ some wr.heap.size := fun e => by have := (own_lt GR.out.row e).2; omega
      obtain ⟨t, ht⟩ : ∃ t, t = wr.heap.size := ⟨_, rfl⟩
      obtain ⟨w1, hw1⟩ : ∃ w1, w1 = wr.alloc (.cells #[.int .i64 a, .int .i64 g] 152) := ⟨_, rfl⟩
      go_upto_region 5 with fail
      rw [← ht, ← hw1] at BT
      rw [← ht] at hut
      rw [← hw1] at G1 ka
      rw [← ht, ← hw1]
      have htw : w.heap.size ≤ t := by rw [ht]; exact GR.out.kp.size
      clear ht hw1 e0 e1
      have hS : (fun w' : World => w'.cell? ⟨nb, no + 1, none⟩ = some (.string (ba plain)) ∧ w'.cell? ⟨t, 0, none⟩ = some (.int .i64 (a : Int))) w1.drew := ⟨(G1.out.keep (Kp.drew [] w1)).cell HC1.out n1, (BT.keep (Kp.drew [] w1) (by simp)).at_ 0 _ rfl⟩
      have GD := hid (G1.out.keep (Kp.drew [] w1))
      have BD := hid (BT.keep (Kp.drew [] w1) (by simp))
      refine wp_region_T (fun w' : World => w'.cell? ⟨nb, no + 1, none⟩ = some (.string (ba plain)) ∧ w'.cell? ⟨t, 0, none⟩ = some (.int .i64 (a : Int))) 11 (by kernel_rfl) ?_
      obtain ⟨w2, hw2⟩ : ∃ w2, w2 = w1.drew := ⟨_, rfl⟩
      rw [← hw2] at hS GD BD ⊢
      clear hw2 BT ka
      refine wpAnyT_take (i := 0) (v := ?v0) rfl (by kernel_rfl) (by kernel_rfl) (by kernel_rfl) (by kernel_rfl) (fun _ _ _ h => h) (Or.inl ⟨by rfl, ?y0⟩) hS ?_
      case y0 => (intro w hSw; (try dsimp only at hSw); go_simp; (try with_reducible rfl))
      simp only [List.getElem_toArray, List.getElem_cons_zero, Act.put, List.setIfInBounds_toArray, List.set_cons_zero, List.set_cons_succ]
      refine wpAnyT_take (i := 1) (v := ?v1) rfl (by kernel_rfl) (by kernel_rfl) (by kernel_rfl) (by kernel_rfl) (fun _ _ _ h => h) (Or.inl ⟨by rfl, ?y1⟩) hS ?_
      case y1 => (intro w hSw; (try dsimp only at hSw); go_simp; (try with_reducible rfl))
      simp only [List.getElem_toArray, List.getElem_cons_succ, List.getElem_cons_zero, Act.put, List.setIfInBounds_toArray, List.set_cons_zero, List.set_cons_succ]
      refine wpAnyT_take (i := 2) (v := ?v2) rfl (by kernel_rfl) (by kernel_rfl) (by kernel_rfl) (by kernel_rfl) (fun _ _ _ h => h) (Or.inl ⟨by rfl, ?y2⟩) hS ?_
      case y2 => (intro w hSw; (try dsimp only at hSw); go_simp; (try with_reducible rfl))
      simp only [List.getElem_toArray, List.getElem_cons_succ, List.getElem_cons_zero, Act.put, List.setIfInBounds_toArray, List.set_cons_zero, List.set_cons_succ]
      refine wpAnyT_take (i := 3) (v := ?v3) rfl (by kernel_rfl) (by kernel_rfl) (by kernel_rfl) (by kernel_rfl) (fun _ _ _ h => h) (Or.inl ⟨by rfl, ?y3⟩) hS ?_
      case y3 => (intro w hSw; (try dsimp only at hSw); go_simp; (try with_reducible rfl))
      simp only [List.getElem_toArray, List.getElem_cons_succ, List.getElem_cons_zero, Act.put, List.setIfInBounds_toArray, List.set_cons_zero, List.set_cons_succ]
      refine wpAnyT_take (i := 4) (v := ?v4) rfl (by kernel_rfl) (by kernel_rfl) (by kernel_rfl) (by kernel_rfl) (fun _ _ _ h => h) (Or.inl ⟨by rfl, ?y4⟩) hS ?_
      case y4 => (intro w hSw; (try dsimp only at hSw); go_simp; (try with_reducible rfl))
      simp only [List.getElem_toArray, List.getElem_cons_succ, List.getElem_cons_zero, Act.put, List.setIfInBounds_toArray, List.set_cons_zero, List.set_cons_succ]
      refine wpAnyT_take (i := 5) (v := ?v5) rfl (by kernel_rfl) (by kernel_rfl) (by kernel_rfl) (by kernel_rfl) (fun _ _ _ h => h) (Or.inl ⟨by rfl, ?y5⟩) hS ?_
      case y5 => (intro w hSw; (try dsimp only at hSw); go_simp; (try with_reducible rfl))
      simp only [List.getElem_toArray, List.getElem_cons_succ, List.getElem_cons_zero, Act.put, List.setIfInBounds_toArray, List.set_cons_zero, List.set_cons_succ]
      refine wpAnyT_take (i := 6) (v := ?v6) rfl (by kernel_rfl) (by kernel_rfl) (by kernel_rfl) (by kernel_rfl) (fun _ _ _ h => h) (Or.inl ⟨by rfl, ?y6⟩) hS ?_
      case y6 => (intro w hSw; (try dsimp only at hSw); go_simp; (try with_reducible rfl))
      simp only [List.getElem_toArray, List.getElem_cons_succ, List.getElem_cons_zero, Act.put, List.setIfInBounds_toArray, List.set_cons_zero, List.set_cons_succ]
      refine wpAnyT_take (i := 7) (v := ?v7) rfl (by kernel_rfl) (by kernel_rfl) (by kernel_rfl) (by kernel_rfl) (fun _ _ _ h => h) (Or.inl ⟨by rfl, ?y7⟩) hS ?_
      case y7 => (intro w hSw; (try dsimp only at hSw); go_simp; (try with_reducible rfl))
      simp only [List.getElem_toArray, List.getElem_cons_succ, List.getElem_cons_zero, Act.put, List.setIfInBounds_toArray, List.set_cons_zero, List.set_cons_succ]
      refine wpAnyT_take (i := 8) (v := ?v8) rfl (by kernel_rfl) (by kernel_rfl) (by kernel_rfl) (by kernel_rfl) (fun _ _ _ h => h) (Or.inl ⟨by rfl, ?y8⟩) hS ?_
      case y8 => (intro w hSw; (try dsimp only at hSw); go_simp; (try with_reducible rfl))
      simp only [List.getElem_toArray, List.getElem_cons_succ, List.getElem_cons_zero, Act.put, List.setIfInBounds_toArray, List.set_cons_zero, List.set_cons_succ]
      refine wpAnyT_take (i := 9) (v := ?v9) rfl (by kernel_rfl) (by kernel_rfl) (by kernel_rfl) (by kernel_rfl) (fun _ _ _ h => h) (Or.inl ⟨by rfl, ?y9⟩) hS ?_
      case y9 => (intro w hSw; (try dsimp only at hSw); go_simp; (try with_reducible rfl))
      simp only [List.getElem_toArray, List.getElem_cons_succ, List.getElem_cons_zero, Act.put, List.setIfInBounds_toArray, List.set_cons_zero, List.set_cons_succ]
      refine wpAnyT_one (i := 10) (by kernel_rfl) rfl (fun K hK => ?_)
      refine step_appS (by rfl) (.tmp 23) (.tmp 32) 34 9 (by rfl) lo 5 i0 Tryz.underlying34 Tryz.underlying9 HI.out.1 HI.out.2.1 HI.out.2.2.1 HI.out.2.2.2 u0 ys.length (Lib.byteCells ys) (by rfl) GD.out.row (ba P1) (by rfl) (by rw [zP1]; have := HY.out; have := Nat.mul_le_mul_right 10000 (show k ≤ 49 by omega); omega) GD.out.lo ?_
      intro v3 w3 ho3 hg3 hl3
      rw [ba_size, ba_list] at ho3
      have G3 := hid (GD.out.more ho3 hg3 hl3)
      have B3 := hid (BD.out.keep (kp_of_grown (S := u0.ownBlock.toList) hg3 (fun p hp => by rw [hp]; simp)) (fun q => hut (by simpa using q)))
      have hS3 : (fun w' : World => w'.cell? ⟨nb, no + 1, none⟩ = some (.string (ba plain)) ∧ w'.cell? ⟨t, 0, none⟩ = some (.int .i64 (a : Int))) w3 := ⟨G3.out.cell HC1.out n1, B3.out.at_ 0 _ rfl⟩
      have hv3 : Hid (v3.ownBlock ≠ some t) := hid (fun e => by
        rcases hl3 t e with r | r
        · exact hut r
        · have := BD.out.lt; omega)
      clear ho3 hg3 hl3 GD BD hS
      refine hK.out _ _ (.inr hS3) ?_
      clear hK K
      refine wpAnyT_one (i := 11) (by kernel_rfl) rfl (fun K hK => ?_)
      go_simp
      refine hK.out _ _ (.inl rfl) ?_
      clear hK K
      refine wpAnyT_done (by kernel_rfl) ?_ _
      have t0 := B3.out.at_ 0 _ rfl
      have t1 := B3.out.at_ 1 _ rfl
      obtain ⟨g2, hg2⟩ : ∃ g2 : Nat, (2 : Int) * (g : Int) = (g2 : Int) := ⟨2 * g, by push_cast; rfl⟩
      obtain ⟨g3, hg3⟩ : ∃ g3 : Nat, (g2 : Int) + 1 = (g3 : Int) := ⟨g2 + 1, by omega⟩
      have wg2 := wrap_i64_nat g2 (by omega)
      have wg3 := wrap_i64_nat g3 (by omega)
      have m2 : g2 < m := by omega
      have m3 : g3 < m := by omega
      have f2 := G3.out.cell (HP.out g2 m2) n2
      have f3 := G3.out.cell (HP.out g3 m3) n2
      obtain ⟨X, hX⟩ : ∃ X, X = nt g2 := ⟨_, rfl⟩
      obtain ⟨Y, hY⟩ : ∃ Y, Y = nt g3 := ⟨_, rfl⟩
      rw [← hX] at f2
      rw [← hY] at f3
      have hXY : X ≤ Y := by rw [hX, hY, show g2 = 2 * g by omega, show g3 = 2 * g + 1 by omega]; exact q3
      have hYs : Y ≤ sp.length := by rw [hY, show g3 = 2 * g + 1 by omega]; exact q4
      have HXY : Hid (X = nt (2 * g) ∧ Y = nt (2 * g + 1)) := hid ⟨by rw [hX, show g2 = 2 * g by omega], by rw [hY, show g3 = 2 * g + 1 by omega]⟩
      obtain ⟨P2, hP2⟩ : ∃ P2, P2 = (sp.take Y).drop X := ⟨_, rfl⟩
      have x2 : (ba sp).extract X Y = ba P2 := by rw [ba_extract, hP2]
      have lP2 : P2.length ≤ 5000 := by rw [hP2, List.length_drop, List.length_take]; omega
      have zP2 := ba_size P2
      have HPP := hid (And.intro HPP1.out hP2)
      clear hX hY hP2 q3 q4 hS3
      go_wp2_with fail
      go_quiet (fail)
      have G4 := hid (G3.out.keep (Kp.drewN [] w3 nq))
      obtain ⟨w4, hw4⟩ : ∃ w4, w4 = w3.drewN nq := ⟨_, rfl⟩
      rw [← hw4] at G4 ⊢
      clear hw4 t0 t1 f2 f3 G3 B3
      go_wp2_with (at_builtin; refine wpList_appS rfl _ _ 34 9 rfl lo 5 i0 Tryz.underlying34 Tryz.underlying9 HI.out.1 HI.out.2.1 HI.out.2.2.1 HI.out.2.2.2 v3 (ys ++ P1).length (Lib.byteCells (ys ++ P1)) rfl G4.out.row (ba P2) rfl (by rw [zP2, List.length_append]; have := HY.out; have := Nat.mul_le_mul_right 10000 (show k ≤ 49 by omega); omega) G4.out.lo ?_; intro v5 w5 ho5 hg5 hl5; rw [ba_size, ba_list] at ho5)
      have G5 := hid (G4.out.more ho5 hg5 hl5)
      go_round
      case rel =>
        refine ⟨k1, a, _, rfl, rfl, by omega, hap, G5, hid ?_, hid ?_, hid (fun a' g' h => ?_)⟩
        · rw [← HE.out, show k1 = k + 1 by omega, List.drop_eq_getElem_cons hkn]
          have := (List.getElem?_eq_some_iff.1 hag).2
          rw [this, putN, HPP.out.1, HPP.out.2, HXY.out.1, HXY.out.2]
          simp [List.append_assoc]
        · rw [List.length_append, List.length_append]
          have := HY.out
          rw [show k1 = k + 1 by omega, Nat.add_mul]
          omega
        · exact HO.out k a g a' g' hag (by rw [← show k1 = k + 1 by omega]; exact h)
      case measure => simp [intOf]; omega
    · have e : k = holes.length := by omega
      subst e
      have zp := ba_size plain
      have c1 := GR.out.cell HC1.out n1
      obtain ⟨P1, hP1⟩ : ∃ P1, P1 = plain.drop d := ⟨_, rfl⟩
      have x1 : (ba plain).extract d plain.length = ba P1 := by rw [ba_extract, hP1, List.take_length]
      have lP1 : P1.length ≤ 2000 := by rw [hP1, List.length_drop]; omega
      have zP1 := ba_size P1
      have HPP := hid hP1
      clear hP1
      go_wp2_with (at_builtin; refine wpList_appS rfl _ _ 34 9 rfl lo 5 i0 Tryz.underlying34 Tryz.underlying9 HI.out.1 HI.out.2.1 HI.out.2.2.1 HI.out.2.2.2 u0 ys.length (Lib.byteCells ys) rfl GR.out.row (ba P1) rfl (by rw [zP1]; have := HY.out; have := Nat.mul_le_mul_right 10000 (show holes.length ≤ 50 by omega); omega) GR.out.lo ?_; intro v5 w5 ho5 hg5 hl5; rw [ba_size, ba_list] at ho5)
      have G5 := hid (GR.out.more ho5 hg5 hl5)
      go_ret
      refine ⟨v5, rfl, ?_⟩
      have he := HE.out
      rw [List.drop_length, putN, ← HPP.out] at he
      rw [← he]
      exact G5.out
end
end Go.Proofs.YtonnimbcekhbgaaGreatDoor

/- KO. -/
namespace Go.Proofs.YtonnimbcekhbgaaGreatDoor
open Go.RowKit Go.Shelf

section
variable {P : Program} {ops : Array Oper} {Q : Exit → Act → World → Prop} {md : Region.Mode} {l m : Nat}
def noDefer (ops : Array Oper) : Bool := ops.all fun o => match o.op with | .defer _ => false | _ => true
theorem noDefer_spec (h : noDefer ops = true) {i : Nat} {o : Oper} (hi : ops[i]? = some o) : ∀ c, o.op ≠ .defer c := by
  intro c hc
  unfold noDefer at h
  rw [Array.all_eq_true] at h
  obtain ⟨hl, e⟩ := Array.getElem?_eq_some_iff.1 hi
  have := h i hl
  rw [e, hc] at this
  cases this

theorem wpIn_round_of {o : Oper} {a : Act} {w : World} {K : Act → World → Prop} (hd : ∀ c, o.op ≠ .defer c) (h : o.wp P a w K Q) : o.wpIn (Fence.wide.inRound l) m P a w K Q := by
  unfold Oper.wpIn Oper.wp at *
  refine ⟨fun _ _ => trivial, ?_⟩
  rw [Oper.semAt_eq _ _ _ hd]
  generalize (execOp a.eval o).run P w = r at *
  cases r with
  | ok x w' =>
    cases x <;> simp only [Oper.upon, Oper.uponIn] at h ⊢
    case value => exact h
    case skip => exact h
    case defer => exact h
    case enter => exact ⟨fun q => (nomatch q), callsIn_wide.2 h⟩
    case row =>
      refine ⟨fun q => (nomatch q), fun c cs _ => ?_⟩
      obtain ⟨v, w2, h1, h2⟩ := h c cs
      exact ⟨v, w2, h1, stepsIn_wide.2 h2⟩
  | halt x w' => cases x <;> simp only [Oper.upon, Oper.uponIn] at h ⊢ <;> exact h

theorem wpAnyIn_round_of (hd : noDefer ops = true) (hL : ¬ LetsOut Q) : ∀ (fuel : Nat) (listed : Array Bool) (a : Act) (w : World), wpAny P md ops Q fuel listed a w → wpAnyIn (Fence.wide.inRound l) m P md ops Q fuel listed a w
  | 0, _, _, _, h => h
  | fuel + 1, listed, a, w, h => ⟨h.1, fun i hi => by
      have h1 := h.2 i hi
      unfold wpOp at h1
      unfold wpOpIn
      split
      · rename_i ho; simp only [ho] at h1; exact wpAnyIn_round_of hd hL fuel _ _ _ h1
      · rename_i o ho
        simp only [ho] at h1
        split
        · rename_i hw
          rw [if_pos hw] at h1
          rcases h1 with h1 | h1
          · exact Oper.wpIn_mono (fun a' w' q => wpAnyIn_round_of hd hL fuel _ a' w' q) (wpIn_round_of (noDefer_spec hd ho) h1)
          · exact absurd h1.2 hL
        · rename_i hw
          rw [if_neg hw] at h1
          exact ⟨fun _ _ => trivial, wpAnyIn_round_of hd hL fuel _ _ _ h1⟩⟩

/-- Q at the normal end, False elsewhere. -/
def OnlyN (Q : Exit → Act → World → Prop) : Exit → Act → World → Prop
  | .normal, a, w => Q .normal a w
  | _, _, _ => False
theorem OnlyN.normal {a : Act} {w : World} (h : Q .normal a w) : OnlyN Q .normal a w := h
theorem OnlyN.imp : ∀ (e : Exit) (a : Act) (w : World), OnlyN Q e a w → Q e a w := fun e a w h => by
  cases e <;> first | exact h | exact (h : False).elim

theorem region_T_round {id : Nat} {a : Act} {w : World} (S : World → Prop) (z : Nat) (hm : P.follows .mixedOrders = true) (hd : noDefer ops = true)
    (h : wpAnyT P .any ops (OnlyN Q) S z ops.size (Array.replicate ops.size false) a w.drew) : (Code.region id ops true).wpIn (Fence.wide.inRound l) m P Q a w :=
  Code.wpIn_mono OnlyN.imp (wpIn_region_any hm (wpAnyIn_round_of hd (fun ⟨_, _, q⟩ => q) _ _ _ _ (wpAny_of_T _ _ _ _ h)))
theorem region_held_round {id : Nat} {a : Act} {w : World} (S : World → Prop) (hm : P.follows .mixedOrders = true) (hd : noDefer ops = true)
    (h : wpAnyH P .any ops (OnlyN Q) S ops.size (Array.replicate ops.size false) a w.drew) : (Code.region id ops true).wpIn (Fence.wide.inRound l) m P Q a w :=
  Code.wpIn_mono OnlyN.imp (wpIn_region_any hm (wpAnyIn_round_of hd (fun ⟨_, _, q⟩ => q) _ _ _ _ (wpAny_of_held _ _ _ _ h)))
/-- One alone may come up, and the condition holds behind it. -/
theorem wpAnyH_one {S : World → Prop} {i : Nat} {o : Oper} {fuel : Nat} {listed : Array Bool} {a : Act} {w : World} (hr : Region.ready md ops listed = [i]) (ho : ops[i]? = some o)
    (h : ∀ K : Act → World → Prop, Shut (∀ a' w', S w' → wpAnyH P md ops Q S fuel (listed.setIfInBounds i true) a' w' → K a' w') → if Region.wanted o (yielded ops a.tmps) = true then Oper.wp P o a w K Q else K (a.put o.dst undef) w) :
    wpAnyH P md ops Q S (fuel + 1) listed a w := by
  refine ⟨fun h0 => (by rw [hr] at h0; cases h0), fun j hj => ?_⟩
  rw [hr] at hj
  have e := List.mem_singleton.1 hj
  subst e
  exact wpOp_step ho (fun K hK => h K (fun a' w' h1 h2 => hK a' w' ⟨h1, h2⟩))

/-- A round, its record told. -/
theorem round_goes2 {F : Fence} {r : Loop} {W : World} {args : Array Value} {R : Ending → World → Prop} (hF : F.fn r.fn) (hl : W.heap[l]? = some (.loop r)) (hr : r.state = .ready) (hp : r.pending = none) (hs : args.size = r.params.size)
    (h : ∀ (rb : Loop) (K : Act → World → Prop), { rb with state := .ready, pending := none } = r → (∀ a₁, r.body.wpIn (F.inRound l) m P (roundPost P l R) a₁ (W.putObj l (.loop rb)) → K a₁ W) →
      r.assign.wpIn (F.inRound l) m P (Exit.then K (fun _ _ _ => False)) { tmps := (r.params.zip args).foldl (fun tmps (t, a) => tmps.setIfInBounds t a) r.tmps, defers := [] } W) : YieldAt F m P l args W R := by
  refine ⟨r.fn, _, r.assign, r.body, run_yield hl hs, roundIn_of_wpIn hF ?_⟩
  refine h { r with state := .busy } _ ?_ (fun a₁ hb => ⟨_, run_beginRound hl hr, hb⟩)
  cases r
  simp only at hr hp
  rw [hr, hp]
end
end Go.Proofs.YtonnimbcekhbgaaGreatDoor
