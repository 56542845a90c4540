/- The law on classes. -/
import Derived.Test.YtanpiomfnbiilaaDoorZa
import Derived.Test.YtanpiomfnbiilaaDoorZb
import Derived.Test.YtanpiomfnbiilaaDoorZe
import Derived.Laws.IdiomStrings
namespace Go.Proofs.YtanpiomfnbiilaaDoor
open Go.RowKit

theorem pk_nat (c n : Int) (h : 0 < n) : ∃ a : Nat, pk c n = a ∧ (a : Int) < n := by
  obtain ⟨h1, h2⟩ := pk_bd c n h
  exact ⟨(pk c n).toNat, by omega, by omega⟩

section
variable {P : Program} {ops : Array Oper} {Q : Exit → Act → World → Prop} {a : Act} {w : World} {rest : List Oper} {o : Oper}
/-- A guarded operation, whichever way its guard goes. -/
theorem wpList_maybe (b : Bool) (v : Value)
    (hw : Region.wanted o (yielded ops a.tmps) = b) (hrun : b = true → (execOp a.eval o).run P w = .ok (.value v) w)
    (h : wpList P ops Q rest (a.put o.dst (if b = true then v else undef)) w) : wpList P ops Q (o :: rest) a w := by
  cases hb : b with
  | false =>
    rw [hb] at hw h
    exact wpList_skip hw h
  | true =>
    rw [hb] at hw h
    unfold wpList
    rw [if_pos hw]
    refine .inl ?_
    unfold Oper.wp
    rw [hrun hb]
    exact h
theorem wpList_do (v : Value) (hg : o.guard = none) (hrun : (execOp a.eval o).run P w = .ok (.value v) w) (h : wpList P ops Q rest (a.put o.dst v) w) : wpList P ops Q (o :: rest) a w := by
  refine wpList_plain hg fun K hK => ?_
  unfold Oper.wp
  rw [hrun]
  exact hK _ _ h
end

section
variable {w : World} {o : Oper} {ev : Operand → Value}
theorem run_mv {P : Program} (x : Operand) (ho : o.op = .move x ∨ o.op = .assign x) (v : Value) (hx : ev x = v) : (execOp ev o).run P w = .ok (.value v) w := by
  rcases ho with ho | ho <;> simp only [execOp, ho, hx] <;> rfl
theorem run_not {b : Bool} (x : Operand) (ho : o.op = .unOp .not 4 x) (hx : ev x = .bool b) : (execOp ev o).run Tryd.prog w = .ok (.value (.bool (!b))) w := by
  simp only [execOp, ho, hx]; go_simp
theorem run_geq {i j : Int} {b : Bool} (x y : Operand) (ho : o.op = .binOp .geq 3 x y 3) (hx : ev x = .int .i64 i) (hy : ev y = .int .i64 j) (hb : decide (j ≤ i) = b) : (execOp ev o).run Tryd.prog w = .ok (.value (.bool b)) w := by
  subst hb; simp only [execOp, ho, hx, hy]; go_simp
theorem run_leq {i j : Int} {b : Bool} (x y : Operand) (ho : o.op = .binOp .leq 3 x y 3) (hx : ev x = .int .i64 i) (hy : ev y = .int .i64 j) (hb : decide (i ≤ j) = b) : (execOp ev o).run Tryd.prog w = .ok (.value (.bool b)) w := by
  subst hb; simp only [execOp, ho, hx, hy]; go_simp
theorem run_eql {i j : Int} {b : Bool} (x y : Operand) (ho : o.op = .binOp .eql 3 x y 3) (hx : ev x = .int .i64 i) (hy : ev y = .int .i64 j) (hb : decide (i = j) = b) : (execOp ev o).run Tryd.prog w = .ok (.value (.bool b)) w := by
  subst hb; simp only [execOp, ho, hx, hy]; go_simp; rfl
end

/-- The text that some bytes are turned into. -/
theorem conv_bytes (W : World) (b cap n : Nat) (ns : List Int) (hn : n = ns.length) (hc : ∀ j x, ns[j]? = some x → W.cell? ⟨b, j, none⟩ = some (.int .u8 x)) :
    (convert 28 9 (.slice (some ⟨b, 0, none⟩) n cap)).run Tryd.prog W = .ok (.string ⟨(ns.map fun x => UInt8.ofNat x.toNat).toArray⟩) W := by
  subst hn
  rw [run_convert_bytes_string W 28 9 5 (some ⟨b, 0, none⟩) ns.length cap (by kernel_rfl) (by kernel_rfl) (by kernel_rfl)]
  have hl := run_loadCells_list (P := Tryd.prog) W ⟨b, 0, none⟩ (ns.map (Value.int .u8)) (fun j v hj => by
    rw [List.getElem?_map] at hj
    obtain ⟨x, hx, rfl⟩ := Option.map_eq_some_iff.1 hj
    have e : (⟨b, 0, none⟩ : Addr).add j = ⟨b, j, none⟩ := by unfold Addr.add; simp [Nat.zero_add, eq_comm]
    rw [e]; exact hc j x hx)
  rw [List.length_map] at hl
  rw [run_bytesToString W ⟨b, 0, none⟩ ns.length cap ns hl]
  congr 1
  congr 1
  have key : ∀ (l : List Int) (s : ByteArray), l.foldl (fun r n => r.push (UInt8.ofNat n.toNat)) s = ⟨s.data ++ (l.map fun x => UInt8.ofNat x.toNat).toArray⟩ := by
    intro l
    induction l with
    | nil => intro s; simp
    | cons x l ih => intro s; rw [List.foldl_cons, ih]; simp [ByteArray.push]
  have he0 : ByteArray.empty.data = #[] := rfl
  rw [key, he0]; simp

theorem conv3 (W : World) (x y z : Int) : (convert 28 9 (.slice (some ⟨W.heap.size, 0, none⟩) 3 3)).run Tryd.prog (W.alloc (.cells #[.int .u8 x, .int .u8 y, .int .u8 z] 5)) =
    .ok (.string ⟨#[UInt8.ofNat x.toNat, UInt8.ofNat y.toNat, UInt8.ofNat z.toNat]⟩) (W.alloc (.cells #[.int .u8 x, .int .u8 y, .int .u8 z] 5)) :=
  conv_bytes _ _ _ _ [x, y, z] rfl (fun j v hj => by
    match j, hj with
    | 0, hj => cases hj; simp [go_sem]
    | 1, hj => cases hj; simp [go_sem]
    | 2, hj => cases hj; simp [go_sem]
    | j + 3, hj => simp at hj)
theorem conv1 (W : World) (c : Nat) : (convert 28 9 (.slice (some ⟨W.heap.size, 0, none⟩) 1 1)).run Tryd.prog ((W.alloc (.cells #[.int .u8 (c : Int)] 5)).drew) =
    .ok (.string ⟨#[UInt8.ofNat c]⟩) ((W.alloc (.cells #[.int .u8 (c : Int)] 5)).drew) :=
  conv_bytes _ _ _ _ [(c : Int)] rfl (fun j v hj => by
    match j, hj with
    | 0, hj => cases hj; show (W.alloc (.cells #[.int .u8 (c : Int)] 5)).cell? _ = _; simp [go_sem]
    | j + 1, hj => simp at hj)

theorem cls_seven (a d : Nat) : (⟨#[UInt8.ofNat (97 + (a : Int)).toNat, UInt8.ofNat (45 : Int).toNat, UInt8.ofNat (97 + (a : Int) + (d : Int)).toNat]⟩ : ByteArray) = cls a d 7 := by
  rw [show (97 + (a : Int)).toNat = 97 + a by omega, show (97 + (a : Int) + (d : Int)).toNat = 97 + a + d by omega]
  show _ = (⟨#[97 + UInt8.ofNat a, 45, 97 + UInt8.ofNat a + UInt8.ofNat d]⟩ : ByteArray)
  simp [UInt8.ofNat_add]

theorem mul_small {H k : Nat} (h1 : H < 11) (h2 : k < 24) : H * k ≤ 264 := Nat.le_trans (Nat.mul_le_mul (Nat.le_of_lt h1) (Nat.le_of_lt h2)) (by omega)
theorem wrap_mul (H k : Nat) (h : H * k ≤ 264) : IntKind.i64.wrap ((H : Int) * (k : Int)) = ((H * k : Nat) : Int) := by
  rw [show (H : Int) * (k : Int) = ((H * k : Nat) : Int) by push_cast; rfl]
  exact wrap_i64_nat _ (by omega)

set_option maxRecDepth 100000 in
set_option maxHeartbeats 4000000 in
theorem classes_any (low high : Int) (h1 : -9223372036854775808 ≤ low) (h2 : low ≤ 9223372036854775807) (h3 : -9223372036854775808 ≤ high) (h4 : high ≤ 9223372036854775807) (w : World) (hw : Nm w) : Calls Tryd.prog 4 #[.int .i64 low, .int .i64 high] w fun e w' => e = .returned (.bool true) ∧ Kp [] w w' := by
  have HW := hid hw
  clear hw
  obtain ⟨a, ea, la⟩ := pk_nat low 20 (by omega)
  obtain ⟨d, ed, ld⟩ := pk_nat high (26 - a) (by omega)
  obtain ⟨L, eL, lL⟩ := pk_nat low 256 (by omega)
  obtain ⟨H, eH, lH⟩ := pk_nat high 11 (by omega)
  have B1 := hid h1
  have B2 := hid h2
  have B3 := hid h3
  have B4 := hid h4
  clear h1 h2 h3 h4
  go_enter Tryd.func4, Tryd.ntmps4
  go_wp2_with fail
  refine (pick_any low 20 B1.out B2.out (by omega) (by omega) w).mono ?_
  rintro e w' ⟨rfl, hww⟩
  subst w'
  rw [ea]
  have wa : IntKind.i64.wrap (97 + (a : Int)) = 97 + a := by rw [IntKind.wrap_i64]; omega
  have wz : IntKind.i64.wrap (122 - (97 + (a : Int))) = 25 - a := by rw [IntKind.wrap_i64]; omega
  have wy : IntKind.i64.wrap (25 - (a : Int) + 1) = 26 - a := by rw [IntKind.wrap_i64]; omega
  go_wp2_with fail
  refine (pick_any high (26 - a) B3.out B4.out (by omega) (by omega) w).mono ?_
  rintro e w' ⟨rfl, hww⟩
  subst w'
  rw [ed]
  have wb : IntKind.i64.wrap (97 + (a : Int) + d) = 97 + a + d := by rw [IntKind.wrap_i64]; omega
  have wc : IntKind.u8.wrap (97 + (a : Int)) = 97 + a := by rw [IntKind.wrap_u8]; omega
  have wd' : IntKind.u8.wrap (97 + (a : Int) + d) = 97 + a + d := by rw [IntKind.wrap_u8]; omega
  obtain ⟨Z, hZ⟩ : ∃ Z : ByteArray, Z = cls a d 7 := ⟨_, rfl⟩
  have kc := conv3 w (97 + a) 45 (97 + a + d)
  rw [cls_seven, ← hZ] at kc
  go_wp2_with fail
  generalize hW1 : ((w.alloc _).alloc _) = W1
  have k1 : Kp [] w W1 := by rw [← hW1]; exact (Kp.alloc _ _ _).trans (Kp.alloc _ _ _)
  have hn : ∀ i, i < 8 → W1.cell? ⟨w.heap.size + 1, i, none⟩ = some (.string (cls a d i)) := by
    intro i hi
    rw [← hW1]
    match i, hi with
    | 0, _ => simp [go_sem]; rfl
    | 1, _ => simp [go_sem]; rfl
    | 2, _ => simp [go_sem]; rfl
    | 3, _ => simp [go_sem]; rfl
    | 4, _ => simp [go_sem]; rfl
    | 5, _ => simp [go_sem]; rfl
    | 6, _ => simp [go_sem]; rfl
    | 7, _ => simp [go_sem]
  have hN : w.heap.size + 1 < W1.heap.size := World.block_lt_of_cell? _ _ (hn 0 (by omega))
  generalize w.heap.size + 1 = N at *
  have HN := hid hn
  clear hn hW1 hZ kc wa wz wy wb wc wd'
  go_loopw [8] (fun v wr => ∃ k : Nat, k ≤ 24 ∧ v = .int .i64 k ∧ Kp [] W1 wr) (fun v _ => 24 - (intOf v).toNat)
  case atStart => exact ⟨0, by omega, rfl, Kp.refl _ _⟩
  case round =>
    obtain ⟨k, hk, rfl, kr⟩ := hrel
    by_cases hlt : k < 24
    · go_wp2_with fail
      refine (pick_any low 256 B1.out B2.out (by omega) (by omega) wr).mono ?_
      rintro e w' ⟨rfl, hww⟩
      subst w'
      rw [eL]
      go_wp2_with fail
      refine (pick_any high 11 B3.out B4.out (by omega) (by omega) wr).mono ?_
      rintro e w' ⟨rfl, hww⟩
      subst w'
      rw [eH]
      obtain ⟨m1, em1⟩ : ∃ m1 : Nat, m1 = H * k := ⟨_, rfl⟩
      have bm1 : m1 ≤ 264 := by rw [em1]; exact mul_small (by omega) hlt
      have w1 : IntKind.i64.wrap ((H : Int) * (k : Int)) = (m1 : Int) := by rw [em1]; exact wrap_mul _ _ (by rw [← em1]; exact bm1)
      obtain ⟨s1, es1⟩ : ∃ s1 : Nat, (L : Int) + (m1 : Int) = (s1 : Int) := ⟨L + m1, by omega⟩
      obtain ⟨s2, es2⟩ : ∃ s2 : Nat, (s1 : Int) + (k : Int) = (s2 : Int) := ⟨s1 + k, by omega⟩
      have w2 := wrap_i64_nat s1 (by omega)
      have w3 := wrap_i64_nat s2 (by omega)
      obtain ⟨c, ec⟩ : ∃ c : Nat, c = s2 % 256 := ⟨_, rfl⟩
      have hc : c < 256 := by omega
      have w4 : Int.tmod (s2 : Int) 256 = (c : Int) := by rw [Int.tmod_eq_emod_of_nonneg (by omega)]; omega
      clear em1 bm1 ec
      rename_i KA hKA KB hKB
      have HKA := hid hKA
      clear hKA
      go_wp2_with fail
      refine HKA.out _ _ ?_
      clear HKA w1 w2 w3 w4 es1 es2
      obtain ⟨U1, hU1⟩ : ∃ U1 : Bool, decide ((65 : Int) ≤ c) = U1 := ⟨_, rfl⟩
      obtain ⟨U2, hU2⟩ : ∃ U2 : Bool, decide ((c : Int) ≤ 90) = U2 := ⟨_, rfl⟩
      obtain ⟨L1, hL1⟩ : ∃ L1 : Bool, decide ((97 : Int) ≤ c) = L1 := ⟨_, rfl⟩
      obtain ⟨L2, hL2⟩ : ∃ L2 : Bool, decide ((c : Int) ≤ 122) = L2 := ⟨_, rfl⟩
      obtain ⟨D1, hD1⟩ : ∃ D1 : Bool, decide ((48 : Int) ≤ c) = D1 := ⟨_, rfl⟩
      obtain ⟨D2, hD2⟩ : ∃ D2 : Bool, decide ((c : Int) ≤ 57) = D2 := ⟨_, rfl⟩
      obtain ⟨S0, hS0⟩ : ∃ S0 : Bool, decide ((c : Int) = 32) = S0 := ⟨_, rfl⟩
      obtain ⟨S1, hS1⟩ : ∃ S1 : Bool, decide ((9 : Int) ≤ c) = S1 := ⟨_, rfl⟩
      obtain ⟨S2, hS2⟩ : ∃ S2 : Bool, decide ((c : Int) ≤ 13) = S2 := ⟨_, rfl⟩
      obtain ⟨P1, hP1⟩ : ∃ P1 : Bool, decide ((33 : Int) ≤ c) = P1 := ⟨_, rfl⟩
      obtain ⟨P2, hP2⟩ : ∃ P2 : Bool, decide ((c : Int) ≤ 126) = P2 := ⟨_, rfl⟩
      obtain ⟨R1, hR1⟩ : ∃ R1 : Bool, decide (97 + (a : Int) ≤ c) = R1 := ⟨_, rfl⟩
      obtain ⟨R2, hR2⟩ : ∃ R2 : Bool, decide ((c : Int) ≤ 97 + (a : Int) + (d : Int)) = R2 := ⟨_, rfl⟩
      refine wp_seq_k (fun K hK => ?_)
      have HK := hid hK
      clear hK
      refine wp_region_lit ?_
      refine wpList_do (.int .i64 (c : Int)) (by rfl) (run_mv _ (.inl rfl) _ rfl) ?_
      simp only [Act.put, List.setIfInBounds_toArray, List.set_cons_zero, List.set_cons_succ]
      refine wpList_do (.bool U1) (by rfl) (run_geq _ _ rfl rfl rfl hU1) ?_
      simp only [Act.put, List.setIfInBounds_toArray, List.set_cons_zero, List.set_cons_succ]
      refine wpList_do (.bool U1) (by rfl) (run_mv _ (.inl rfl) _ rfl) ?_
      simp only [Act.put, List.setIfInBounds_toArray, List.set_cons_zero, List.set_cons_succ]
      refine wpList_maybe (U1) (.int .i64 (c : Int)) (by cases U1 <;> rfl) (by cases U1 <;> first | (intro hb; cases hb; done) | (intro _; exact run_mv _ (.inl rfl) _ rfl)) ?_
      simp only [Act.put, List.setIfInBounds_toArray, List.set_cons_zero, List.set_cons_succ]
      refine wpList_maybe (U1) (.bool U2) (by cases U1 <;> rfl) (by cases U1 <;> first | (intro hb; cases hb; done) | (intro _; exact run_leq _ _ rfl rfl rfl hU2)) ?_
      simp only [Act.put, List.setIfInBounds_toArray, List.set_cons_zero, List.set_cons_succ]
      refine wpList_do (.bool (U1 && U2)) (by rfl) (by cases U1 <;> cases U2 <;> rfl) ?_
      simp only [Act.put, List.setIfInBounds_toArray, List.set_cons_zero, List.set_cons_succ]
      refine wpList_do (.bool (U1 && U2)) (by rfl) (run_mv _ (.inr rfl) _ rfl) ?_
      simp only [Act.put, List.setIfInBounds_toArray, List.set_cons_zero, List.set_cons_succ]
      obtain ⟨UP, hUP⟩ : ∃ UP : Bool, (U1 && U2) = UP := ⟨_, rfl⟩
      rw [hUP]
      refine wpList_nil ?_
      dsimp only [Exit.then]
      refine HK.out _ _ ?_
      clear HK K
      refine wp_seq_k (fun K hK => ?_)
      have HK := hid hK
      clear hK
      refine wp_region_lit ?_
      refine wpList_do (.int .i64 (c : Int)) (by rfl) (run_mv _ (.inl rfl) _ rfl) ?_
      simp only [Act.put, List.setIfInBounds_toArray, List.set_cons_zero, List.set_cons_succ]
      refine wpList_do (.bool L1) (by rfl) (run_geq _ _ rfl rfl rfl hL1) ?_
      simp only [Act.put, List.setIfInBounds_toArray, List.set_cons_zero, List.set_cons_succ]
      refine wpList_do (.bool L1) (by rfl) (run_mv _ (.inl rfl) _ rfl) ?_
      simp only [Act.put, List.setIfInBounds_toArray, List.set_cons_zero, List.set_cons_succ]
      refine wpList_maybe (L1) (.int .i64 (c : Int)) (by cases L1 <;> rfl) (by cases L1 <;> first | (intro hb; cases hb; done) | (intro _; exact run_mv _ (.inl rfl) _ rfl)) ?_
      simp only [Act.put, List.setIfInBounds_toArray, List.set_cons_zero, List.set_cons_succ]
      refine wpList_maybe (L1) (.bool L2) (by cases L1 <;> rfl) (by cases L1 <;> first | (intro hb; cases hb; done) | (intro _; exact run_leq _ _ rfl rfl rfl hL2)) ?_
      simp only [Act.put, List.setIfInBounds_toArray, List.set_cons_zero, List.set_cons_succ]
      refine wpList_do (.bool (L1 && L2)) (by rfl) (by cases L1 <;> cases L2 <;> rfl) ?_
      simp only [Act.put, List.setIfInBounds_toArray, List.set_cons_zero, List.set_cons_succ]
      refine wpList_do (.bool (L1 && L2)) (by rfl) (run_mv _ (.inr rfl) _ rfl) ?_
      simp only [Act.put, List.setIfInBounds_toArray, List.set_cons_zero, List.set_cons_succ]
      obtain ⟨LO, hLO⟩ : ∃ LO : Bool, (L1 && L2) = LO := ⟨_, rfl⟩
      rw [hLO]
      refine wpList_nil ?_
      dsimp only [Exit.then]
      refine HK.out _ _ ?_
      clear HK K
      refine wp_seq_k (fun K hK => ?_)
      have HK := hid hK
      clear hK
      refine wp_region_lit ?_
      refine wpList_do (.int .i64 (c : Int)) (by rfl) (run_mv _ (.inl rfl) _ rfl) ?_
      simp only [Act.put, List.setIfInBounds_toArray, List.set_cons_zero, List.set_cons_succ]
      refine wpList_do (.bool D1) (by rfl) (run_geq _ _ rfl rfl rfl hD1) ?_
      simp only [Act.put, List.setIfInBounds_toArray, List.set_cons_zero, List.set_cons_succ]
      refine wpList_do (.bool D1) (by rfl) (run_mv _ (.inl rfl) _ rfl) ?_
      simp only [Act.put, List.setIfInBounds_toArray, List.set_cons_zero, List.set_cons_succ]
      refine wpList_maybe (D1) (.int .i64 (c : Int)) (by cases D1 <;> rfl) (by cases D1 <;> first | (intro hb; cases hb; done) | (intro _; exact run_mv _ (.inl rfl) _ rfl)) ?_
      simp only [Act.put, List.setIfInBounds_toArray, List.set_cons_zero, List.set_cons_succ]
      refine wpList_maybe (D1) (.bool D2) (by cases D1 <;> rfl) (by cases D1 <;> first | (intro hb; cases hb; done) | (intro _; exact run_leq _ _ rfl rfl rfl hD2)) ?_
      simp only [Act.put, List.setIfInBounds_toArray, List.set_cons_zero, List.set_cons_succ]
      refine wpList_do (.bool (D1 && D2)) (by rfl) (by cases D1 <;> cases D2 <;> rfl) ?_
      simp only [Act.put, List.setIfInBounds_toArray, List.set_cons_zero, List.set_cons_succ]
      refine wpList_do (.bool (D1 && D2)) (by rfl) (run_mv _ (.inr rfl) _ rfl) ?_
      simp only [Act.put, List.setIfInBounds_toArray, List.set_cons_zero, List.set_cons_succ]
      obtain ⟨DG, hDG⟩ : ∃ DG : Bool, (D1 && D2) = DG := ⟨_, rfl⟩
      rw [hDG]
      refine wpList_nil ?_
      dsimp only [Exit.then]
      refine HK.out _ _ ?_
      clear HK K
      refine wp_seq_k (fun K hK => ?_)
      have HK := hid hK
      clear hK
      refine wp_region_lit ?_
      refine wpList_do (.bool UP) (by rfl) (run_mv _ (.inl rfl) _ rfl) ?_
      simp only [Act.put, List.setIfInBounds_toArray, List.set_cons_zero, List.set_cons_succ]
      refine wpList_do (.bool UP) (by rfl) (run_mv _ (.inl rfl) _ rfl) ?_
      simp only [Act.put, List.setIfInBounds_toArray, List.set_cons_zero, List.set_cons_succ]
      refine wpList_maybe ((!UP)) (.bool LO) (by cases UP <;> rfl) (by cases UP <;> first | (intro hb; cases hb; done) | (intro _; exact run_mv _ (.inl rfl) _ rfl)) ?_
      simp only [Act.put, List.setIfInBounds_toArray, List.set_cons_zero, List.set_cons_succ]
      refine wpList_do (.bool (UP || LO)) (by rfl) (by cases UP <;> cases LO <;> rfl) ?_
      simp only [Act.put, List.setIfInBounds_toArray, List.set_cons_zero, List.set_cons_succ]
      refine wpList_do (.bool (UP || LO)) (by rfl) (run_mv _ (.inr rfl) _ rfl) ?_
      simp only [Act.put, List.setIfInBounds_toArray, List.set_cons_zero, List.set_cons_succ]
      obtain ⟨AL, hAL⟩ : ∃ AL : Bool, (UP || LO) = AL := ⟨_, rfl⟩
      rw [hAL]
      refine wpList_nil ?_
      dsimp only [Exit.then]
      refine HK.out _ _ ?_
      clear HK K
      refine wp_seq_k (fun K hK => ?_)
      have HK := hid hK
      clear hK
      refine wp_region_lit ?_
      refine wpList_do (.bool AL) (by rfl) (run_mv _ (.inl rfl) _ rfl) ?_
      simp only [Act.put, List.setIfInBounds_toArray, List.set_cons_zero, List.set_cons_succ]
      refine wpList_do (.bool DG) (by rfl) (run_mv _ (.inl rfl) _ rfl) ?_
      simp only [Act.put, List.setIfInBounds_toArray, List.set_cons_zero, List.set_cons_succ]
      refine wpList_do (.bool AL) (by rfl) (run_mv _ (.inl rfl) _ rfl) ?_
      simp only [Act.put, List.setIfInBounds_toArray, List.set_cons_zero, List.set_cons_succ]
      refine wpList_do (.bool AL) (by rfl) (run_mv _ (.inl rfl) _ rfl) ?_
      simp only [Act.put, List.setIfInBounds_toArray, List.set_cons_zero, List.set_cons_succ]
      refine wpList_maybe ((!AL)) (.bool DG) (by cases AL <;> rfl) (by cases AL <;> first | (intro hb; cases hb; done) | (intro _; exact run_mv _ (.inl rfl) _ rfl)) ?_
      simp only [Act.put, List.setIfInBounds_toArray, List.set_cons_zero, List.set_cons_succ]
      refine wpList_do (.bool (AL || DG)) (by rfl) (by cases AL <;> cases DG <;> rfl) ?_
      simp only [Act.put, List.setIfInBounds_toArray, List.set_cons_zero, List.set_cons_succ]
      refine wpList_do (.bool UP) (by rfl) (run_mv _ (.inl rfl) _ rfl) ?_
      simp only [Act.put, List.setIfInBounds_toArray, List.set_cons_zero, List.set_cons_succ]
      refine wpList_do (.bool LO) (by rfl) (run_mv _ (.inl rfl) _ rfl) ?_
      simp only [Act.put, List.setIfInBounds_toArray, List.set_cons_zero, List.set_cons_succ]
      refine wpList_do (.int .i64 (c : Int)) (by rfl) (run_mv _ (.inl rfl) _ rfl) ?_
      simp only [Act.put, List.setIfInBounds_toArray, List.set_cons_zero, List.set_cons_succ]
      refine wpList_do (.bool S0) (by rfl) (run_eql _ _ rfl rfl rfl hS0) ?_
      simp only [Act.put, List.setIfInBounds_toArray, List.set_cons_zero, List.set_cons_succ]
      refine wpList_do (.bool S0) (by rfl) (run_mv _ (.inl rfl) _ rfl) ?_
      simp only [Act.put, List.setIfInBounds_toArray, List.set_cons_zero, List.set_cons_succ]
      refine wpList_maybe ((!S0)) (.int .i64 (c : Int)) (by cases S0 <;> rfl) (by cases S0 <;> first | (intro hb; cases hb; done) | (intro _; exact run_mv _ (.inl rfl) _ rfl)) ?_
      simp only [Act.put, List.setIfInBounds_toArray, List.set_cons_zero, List.set_cons_succ]
      refine wpList_maybe ((!S0)) (.bool S1) (by cases S0 <;> rfl) (by cases S0 <;> first | (intro hb; cases hb; done) | (intro _; exact run_geq _ _ rfl rfl rfl hS1)) ?_
      simp only [Act.put, List.setIfInBounds_toArray, List.set_cons_zero, List.set_cons_succ]
      refine wpList_maybe ((!S0)) (.bool S1) (by cases S0 <;> rfl) (by cases S0 <;> first | (intro hb; cases hb; done) | (intro _; exact run_mv _ (.inl rfl) _ rfl)) ?_
      simp only [Act.put, List.setIfInBounds_toArray, List.set_cons_zero, List.set_cons_succ]
      refine wpList_maybe (((!S0) && S1)) (.int .i64 (c : Int)) (by cases S0 <;> cases S1 <;> rfl) (by cases S0 <;> cases S1 <;> first | (intro hb; cases hb; done) | (intro _; exact run_mv _ (.inl rfl) _ rfl)) ?_
      simp only [Act.put, List.setIfInBounds_toArray, List.set_cons_zero, List.set_cons_succ]
      refine wpList_maybe (((!S0) && S1)) (.bool S2) (by cases S0 <;> cases S1 <;> rfl) (by cases S0 <;> cases S1 <;> first | (intro hb; cases hb; done) | (intro _; exact run_leq _ _ rfl rfl rfl hS2)) ?_
      simp only [Act.put, List.setIfInBounds_toArray, List.set_cons_zero, List.set_cons_succ]
      refine wpList_maybe ((!S0)) (.bool (S1 && S2)) (by cases S0 <;> rfl) (by cases S0 <;> cases S1 <;> cases S2 <;> first | (intro hb; cases hb; done) | (intro _; rfl)) ?_
      simp only [Act.put, List.setIfInBounds_toArray, List.set_cons_zero, List.set_cons_succ]
      refine wpList_do (.bool (S0 || (S1 && S2))) (by rfl) (by cases S0 <;> cases S1 <;> cases S2 <;> rfl) ?_
      simp only [Act.put, List.setIfInBounds_toArray, List.set_cons_zero, List.set_cons_succ]
      refine wpList_do (.int .i64 (c : Int)) (by rfl) (run_mv _ (.inl rfl) _ rfl) ?_
      simp only [Act.put, List.setIfInBounds_toArray, List.set_cons_zero, List.set_cons_succ]
      refine wpList_do (.bool P1) (by rfl) (run_geq _ _ rfl rfl rfl hP1) ?_
      simp only [Act.put, List.setIfInBounds_toArray, List.set_cons_zero, List.set_cons_succ]
      refine wpList_do (.bool P1) (by rfl) (run_mv _ (.inl rfl) _ rfl) ?_
      simp only [Act.put, List.setIfInBounds_toArray, List.set_cons_zero, List.set_cons_succ]
      refine wpList_maybe (P1) (.int .i64 (c : Int)) (by cases P1 <;> rfl) (by cases P1 <;> first | (intro hb; cases hb; done) | (intro _; exact run_mv _ (.inl rfl) _ rfl)) ?_
      simp only [Act.put, List.setIfInBounds_toArray, List.set_cons_zero, List.set_cons_succ]
      refine wpList_maybe (P1) (.bool P2) (by cases P1 <;> rfl) (by cases P1 <;> first | (intro hb; cases hb; done) | (intro _; exact run_leq _ _ rfl rfl rfl hP2)) ?_
      simp only [Act.put, List.setIfInBounds_toArray, List.set_cons_zero, List.set_cons_succ]
      refine wpList_do (.bool (P1 && P2)) (by rfl) (by cases P1 <;> cases P2 <;> rfl) ?_
      simp only [Act.put, List.setIfInBounds_toArray, List.set_cons_zero, List.set_cons_succ]
      refine wpList_do (.bool (P1 && P2)) (by rfl) (run_mv _ (.inl rfl) _ rfl) ?_
      simp only [Act.put, List.setIfInBounds_toArray, List.set_cons_zero, List.set_cons_succ]
      refine wpList_maybe ((P1 && P2)) (.bool AL) (by cases P1 <;> cases P2 <;> rfl) (by cases P1 <;> cases P2 <;> first | (intro hb; cases hb; done) | (intro _; exact run_mv _ (.inl rfl) _ rfl)) ?_
      simp only [Act.put, List.setIfInBounds_toArray, List.set_cons_zero, List.set_cons_succ]
      refine wpList_maybe ((P1 && P2)) (.bool (!AL)) (by cases P1 <;> cases P2 <;> rfl) (by cases P1 <;> cases P2 <;> first | (intro hb; cases hb; done) | (intro _; exact run_not _ rfl rfl)) ?_
      simp only [Act.put, List.setIfInBounds_toArray, List.set_cons_zero, List.set_cons_succ]
      refine wpList_do (.bool ((P1 && P2) && (!AL))) (by rfl) (by cases P1 <;> cases P2 <;> cases AL <;> rfl) ?_
      simp only [Act.put, List.setIfInBounds_toArray, List.set_cons_zero, List.set_cons_succ]
      refine wpList_do (.bool ((P1 && P2) && (!AL))) (by rfl) (run_mv _ (.inl rfl) _ rfl) ?_
      simp only [Act.put, List.setIfInBounds_toArray, List.set_cons_zero, List.set_cons_succ]
      refine wpList_maybe (((P1 && P2) && (!AL))) (.bool DG) (by cases P1 <;> cases P2 <;> cases AL <;> rfl) (by cases P1 <;> cases P2 <;> cases AL <;> first | (intro hb; cases hb; done) | (intro _; exact run_mv _ (.inl rfl) _ rfl)) ?_
      simp only [Act.put, List.setIfInBounds_toArray, List.set_cons_zero, List.set_cons_succ]
      refine wpList_maybe (((P1 && P2) && (!AL))) (.bool (!DG)) (by cases P1 <;> cases P2 <;> cases AL <;> rfl) (by cases P1 <;> cases P2 <;> cases AL <;> first | (intro hb; cases hb; done) | (intro _; exact run_not _ rfl rfl)) ?_
      simp only [Act.put, List.setIfInBounds_toArray, List.set_cons_zero, List.set_cons_succ]
      refine wpList_do (.bool (((P1 && P2) && (!AL)) && (!DG))) (by rfl) (by cases P1 <;> cases P2 <;> cases AL <;> cases DG <;> rfl) ?_
      simp only [Act.put, List.setIfInBounds_toArray, List.set_cons_zero, List.set_cons_succ]
      refine wpList_do (.int .i64 (c : Int)) (by rfl) (run_mv _ (.inl rfl) _ rfl) ?_
      simp only [Act.put, List.setIfInBounds_toArray, List.set_cons_zero, List.set_cons_succ]
      refine wpList_do (.int .i64 (97 + (a : Int))) (by rfl) (run_mv _ (.inl rfl) _ rfl) ?_
      simp only [Act.put, List.setIfInBounds_toArray, List.set_cons_zero, List.set_cons_succ]
      refine wpList_do (.bool R1) (by rfl) (run_geq _ _ rfl rfl rfl hR1) ?_
      simp only [Act.put, List.setIfInBounds_toArray, List.set_cons_zero, List.set_cons_succ]
      refine wpList_do (.bool R1) (by rfl) (run_mv _ (.inl rfl) _ rfl) ?_
      simp only [Act.put, List.setIfInBounds_toArray, List.set_cons_zero, List.set_cons_succ]
      refine wpList_maybe (R1) (.int .i64 (c : Int)) (by cases R1 <;> rfl) (by cases R1 <;> first | (intro hb; cases hb; done) | (intro _; exact run_mv _ (.inl rfl) _ rfl)) ?_
      simp only [Act.put, List.setIfInBounds_toArray, List.set_cons_zero, List.set_cons_succ]
      refine wpList_maybe (R1) (.int .i64 (97 + (a : Int) + (d : Int))) (by cases R1 <;> rfl) (by cases R1 <;> first | (intro hb; cases hb; done) | (intro _; exact run_mv _ (.inl rfl) _ rfl)) ?_
      simp only [Act.put, List.setIfInBounds_toArray, List.set_cons_zero, List.set_cons_succ]
      refine wpList_maybe (R1) (.bool R2) (by cases R1 <;> rfl) (by cases R1 <;> first | (intro hb; cases hb; done) | (intro _; exact run_leq _ _ rfl rfl rfl hR2)) ?_
      simp only [Act.put, List.setIfInBounds_toArray, List.set_cons_zero, List.set_cons_succ]
      refine wpList_do (.bool (R1 && R2)) (by rfl) (by cases R1 <;> cases R2 <;> rfl) ?_
      simp only [Act.put, List.setIfInBounds_toArray, List.set_cons_zero, List.set_cons_succ]
      generalize (if U1 = true then Value.int .i64 (c : Int) else undef) = j0 at *
      generalize (if U1 = true then Value.bool U2 else undef) = j1 at *
      generalize (if L1 = true then Value.int .i64 (c : Int) else undef) = j2 at *
      generalize (if L1 = true then Value.bool L2 else undef) = j3 at *
      generalize (if D1 = true then Value.int .i64 (c : Int) else undef) = j4 at *
      generalize (if D1 = true then Value.bool D2 else undef) = j5 at *
      generalize (if (!UP) = true then Value.bool LO else undef) = j6 at *
      generalize (if (!AL) = true then Value.bool DG else undef) = j7 at *
      generalize (if (!S0) = true then Value.int .i64 (c : Int) else undef) = j8 at *
      generalize (if (!S0) = true then Value.bool S1 else undef) = j9 at *
      generalize (if ((!S0) && S1) = true then Value.int .i64 (c : Int) else undef) = j10 at *
      generalize (if ((!S0) && S1) = true then Value.bool S2 else undef) = j11 at *
      generalize (if (!S0) = true then Value.bool (S1 && S2) else undef) = j12 at *
      generalize (if P1 = true then Value.int .i64 (c : Int) else undef) = j13 at *
      generalize (if P1 = true then Value.bool P2 else undef) = j14 at *
      generalize (if (P1 && P2) = true then Value.bool AL else undef) = j15 at *
      generalize (if (P1 && P2) = true then Value.bool (!AL) else undef) = j16 at *
      generalize (if ((P1 && P2) && (!AL)) = true then Value.bool DG else undef) = j17 at *
      generalize (if ((P1 && P2) && (!AL)) = true then Value.bool (!DG) else undef) = j18 at *
      generalize (if R1 = true then Value.int .i64 (c : Int) else undef) = j19 at *
      generalize (if R1 = true then Value.int .i64 (97 + (a : Int) + (d : Int)) else undef) = j20 at *
      generalize (if R1 = true then Value.bool R2 else undef) = j21 at *
      go_wp2_with fail
      have hin := in_facts hU1 hU2 hL1 hL2 hD1 hD2 hS0 hS1 hS2 hP1 hP2 hR1 hR2 hUP hLO hDG hAL
      clear hU1 hU2 hL1 hL2 hD1 hD2 hS0 hS1 hS2 hP1 hP2 hR1 hR2 hUP hLO hDG hAL
      have hI : ∀ i, i < 8 → (wr.alloc (.cells #[.bool AL, .bool DG, .bool (AL || DG), .bool UP, .bool LO, .bool (S0 || S1 && S2), .bool (P1 && P2 && !AL && !DG), .bool (R1 && R2)] 4)).cell? ⟨wr.heap.size, i, none⟩ = some (.bool (clsM a d i c)) := fun i hi => by
        have e := range_new wr #[.bool AL, .bool DG, .bool (AL || DG), .bool UP, .bool LO, .bool (S0 || S1 && S2), .bool (P1 && P2 && !AL && !DG), .bool (R1 && R2)] 4 i (.bool (clsM a d i c)) (by
          show (List.map Value.bool [AL, DG, AL || DG, UP, LO, S0 || S1 && S2, P1 && P2 && !AL && !DG, R1 && R2])[i]? = _
          rw [List.getElem?_map, hin i hi]; rfl)
        rwa [Nat.zero_add] at e
      have k2 : Kp [] W1 (wr.alloc (.cells #[.bool AL, .bool DG, .bool (AL || DG), .bool UP, .bool LO, .bool (S0 || S1 && S2), .bool (P1 && P2 && !AL && !DG), .bool (R1 && R2)] 4)) := kr.trans (Kp.alloc _ _ _)
      clear hin
      generalize wr.alloc (.cells #[.bool AL, .bool DG, .bool (AL || DG), .bool UP, .bool LO, .bool (S0 || S1 && S2), .bool (P1 && P2 && !AL && !DG), .bool (R1 && R2)] 4) = W2 at *
      generalize wr.heap.size = I at *
      generalize (AL || DG) = J1 at *
      generalize (S0 || S1 && S2) = J2 at *
      generalize (P1 && P2 && !AL && !DG) = J3 at *
      generalize (R1 && R2) = J4 at *
      have HI := hid hI
      clear hI
      refine HK.out _ _ ?_
      clear HK K
      go_wp2_with fail
      go_loopw [15] (fun v wl => ∃ i : Nat, i ≤ 8 ∧ v = .int .i64 i ∧ Kp [] W2 wl) (fun v _ => 8 - (intOf v).toNat)
      case atStart => exact ⟨0, by omega, rfl, Kp.refl _ _⟩
      case round =>
        obtain ⟨i, hi8, rfl, kl⟩ := hrel
        by_cases hi : i < 8
        · have KWx := hid (k1.trans (k2.trans kl))
          have nA := ((k2.trans kl).cell (World.block_lt_of_cell? _ _ (HN.out i hi)) (by simp)).trans (HN.out i hi)
          have nB := (kl.cell (World.block_lt_of_cell? _ _ (HI.out i hi)) (by simp)).trans (HI.out i hi)
          obtain ⟨b, hb⟩ : ∃ b, clsM a d i c = b := ⟨_, rfl⟩
          rw [hb] at nB
          have HB := hid hb
          clear hb
          have hsz := cls_size a d i
          have hz1 : ¬ 9223372036854775807 < 1 + (cls a d i).size := by omega
          have hz2 : ¬ 9223372036854775807 < 1 + (cls a d i).size + 1 := by omega
          have hz3 : ¬ 9223372036854775807 < 2 + (cls a d i).size := by omega
          have hz4 : ¬ 9223372036854775807 < 2 + (cls a d i).size + 1 := by omega
          have had : a + d < 26 := by omega
          have wq : IntKind.u8.wrap (c : Int) = c := by rw [IntKind.wrap_u8]; omega
          cases b
          · go_wp2_with fail
            refine wp_region_noPanic ?_
            refine wp_region_T (fun w' : World => w'.cell? ⟨N, i, none⟩ = some (.string (cls a d i))) 12 (by kernel_rfl) ?_
            have hSx : (fun w' : World => w'.cell? ⟨N, i, none⟩ = some (.string (cls a d i))) wr.drew := nA
            refine wpAnyT_take (i := 0) (v := ?v0x) rfl (by kernel_rfl) (by kernel_rfl) (by kernel_rfl) (by kernel_rfl) (fun _ _ _ h => h) (Or.inl ⟨by rfl, ?y0x⟩) hSx ?_
            case y0x => (intro w hSw; (try dsimp only at hSw); go_simp; (try with_reducible rfl))
            simp only [List.getElem_toArray, List.getElem_cons_zero, Act.put, List.setIfInBounds_toArray, List.set_cons_zero, List.set_cons_succ]
            refine wpAnyT_take (i := 1) (v := ?v1x) rfl (by kernel_rfl) (by kernel_rfl) (by kernel_rfl) (by kernel_rfl) (fun _ _ _ h => h) (Or.inl ⟨by rfl, ?y1x⟩) hSx ?_
            case y1x => (intro w hSw; (try dsimp only at hSw); go_simp; (try with_reducible rfl))
            simp only [List.getElem_toArray, List.getElem_cons_succ, List.getElem_cons_zero, Act.put, List.setIfInBounds_toArray, List.set_cons_zero, List.set_cons_succ]
            refine wpAnyT_take (i := 2) (v := ?v2x) rfl (by kernel_rfl) (by kernel_rfl) (by kernel_rfl) (by kernel_rfl) (fun _ _ _ h => h) (Or.inl ⟨by rfl, ?y2x⟩) hSx ?_
            case y2x => (intro w hSw; (try dsimp only at hSw); go_simp; (try with_reducible rfl))
            simp only [List.getElem_toArray, List.getElem_cons_succ, List.getElem_cons_zero, Act.put, List.setIfInBounds_toArray, List.set_cons_zero, List.set_cons_succ]
            refine wpAnyT_take (i := 3) (v := ?v3x) rfl (by kernel_rfl) (by kernel_rfl) (by kernel_rfl) (by kernel_rfl) (fun _ _ _ h => h) (Or.inl ⟨by rfl, ?y3x⟩) hSx ?_
            case y3x => (intro w hSw; (try dsimp only at hSw); go_simp; (try with_reducible rfl))
            simp only [List.getElem_toArray, List.getElem_cons_succ, List.getElem_cons_zero, Act.put, List.setIfInBounds_toArray, List.set_cons_zero, List.set_cons_succ]
            refine wpAnyT_take (i := 4) (v := ?v4x) rfl (by kernel_rfl) (by kernel_rfl) (by kernel_rfl) (by kernel_rfl) (fun _ _ _ h => h) (Or.inl ⟨by rfl, ?y4x⟩) hSx ?_
            case y4x => (intro w hSw; (try dsimp only at hSw); go_simp; (try with_reducible rfl))
            simp only [List.getElem_toArray, List.getElem_cons_succ, List.getElem_cons_zero, Act.put, List.setIfInBounds_toArray, List.set_cons_zero, List.set_cons_succ]
            refine wpAnyT_take (i := 5) (v := ?v5x) rfl (by kernel_rfl) (by kernel_rfl) (by kernel_rfl) (by kernel_rfl) (fun _ _ _ h => h) (Or.inl ⟨by rfl, ?y5x⟩) hSx ?_
            case y5x => (intro w hSw; (try dsimp only at hSw); go_simp; (try with_reducible rfl))
            simp only [List.getElem_toArray, List.getElem_cons_succ, List.getElem_cons_zero, Act.put, List.setIfInBounds_toArray, List.set_cons_zero, List.set_cons_succ]
            refine wpAnyT_take (i := 6) (v := ?v6x) rfl (by kernel_rfl) (by kernel_rfl) (by kernel_rfl) (by kernel_rfl) (fun _ _ _ h => h) (Or.inl ⟨by rfl, ?y6x⟩) hSx ?_
            case y6x => (intro w hSw; (try dsimp only at hSw); go_simp; (try with_reducible rfl))
            simp only [List.getElem_toArray, List.getElem_cons_succ, List.getElem_cons_zero, Act.put, List.setIfInBounds_toArray, List.set_cons_zero, List.set_cons_succ]
            refine wpAnyT_take (i := 7) (v := ?v7x) rfl (by kernel_rfl) (by kernel_rfl) (by kernel_rfl) (by kernel_rfl) (fun _ _ _ h => h) (Or.inl ⟨by rfl, ?y7x⟩) hSx ?_
            case y7x => (intro w hSw; (try dsimp only at hSw); go_simp; (try with_reducible rfl))
            simp only [List.getElem_toArray, List.getElem_cons_succ, List.getElem_cons_zero, Act.put, List.setIfInBounds_toArray, List.set_cons_zero, List.set_cons_succ]
            refine wpAnyT_take (i := 10) (v := ?v10x) rfl (by kernel_rfl) (by kernel_rfl) (by kernel_rfl) (by kernel_rfl) (fun _ _ _ h => h) (Or.inl ⟨by rfl, ?y10x⟩) hSx ?_
            case y10x => (intro w hSw; (try dsimp only at hSw); go_simp; (try with_reducible rfl))
            simp only [List.getElem_toArray, List.getElem_cons_succ, List.getElem_cons_zero, Act.put, List.setIfInBounds_toArray, List.set_cons_zero, List.set_cons_succ]
            refine wpAnyT_one (i := 8) (by kernel_rfl) rfl (fun K hK => ?_)
            go_simp
            refine hK.out _ _ (.inr (cell_ad nA _)) ?_
            clear hK K
            have kcx := conv1 wr c
            refine wpAnyT_one (i := 9) (by kernel_rfl) rfl (fun K hK => ?_)
            go_simp
            refine hK.out _ _ (.inr (cell_ad nA _)) ?_
            clear hK K kcx
            have kax : Kp [] wr (((wr.alloc (.cells #[.int .u8 (c : Int)] 5)).drew)) := (Kp.alloc _ _ _).trans (Kp.drew _ _)
            have KAx := hid kax
            clear kax
            refine wpAnyT_one (i := 11) (by kernel_rfl) rfl (fun K hK => ?_)
            go_simp
            refine (found_pin (HW.out.keep (KWx.out.trans KAx.out) (by simp)) hi had hc HB.out _ rfl).mono ?_
            rintro e wx' ⟨rfl, kfx⟩
            have nx := (kfx.cell (World.block_lt_of_cell? _ _ (cell_ad nA _)) (by simp)).trans (cell_ad nA _)
            have KFx := hid (KAx.out.trans kfx)
            refine hK.out _ _ (.inr nx) ?_
            clear hK K kfx
            refine wpAnyT_one (i := 12) (by kernel_rfl) rfl (fun K hK => ?_)
            go_simp
            refine hK.out _ _ (.inl rfl) ?_
            clear hK K hSx
            refine wpAnyT_done (by kernel_rfl) ?_ _
            refine NoPanic.normal ?_
            have KWy := hid (KWx.out.trans KFx.out)
            clear nA
            go_wp2_with fail
            refine wp_region_noPanic ?_
            refine wp_region_T (fun w' : World => w'.cell? ⟨N, i, none⟩ = some (.string (cls a d i))) 12 (by kernel_rfl) ?_
            have hSy : (fun w' : World => w'.cell? ⟨N, i, none⟩ = some (.string (cls a d i))) wx'.drew := nx
            refine wpAnyT_take (i := 0) (v := ?v0y) rfl (by kernel_rfl) (by kernel_rfl) (by kernel_rfl) (by kernel_rfl) (fun _ _ _ h => h) (Or.inl ⟨by rfl, ?y0y⟩) hSy ?_
            case y0y => (intro w hSw; (try dsimp only at hSw); go_simp; (try with_reducible rfl))
            simp only [List.getElem_toArray, List.getElem_cons_zero, Act.put, List.setIfInBounds_toArray, List.set_cons_zero, List.set_cons_succ]
            refine wpAnyT_take (i := 1) (v := ?v1y) rfl (by kernel_rfl) (by kernel_rfl) (by kernel_rfl) (by kernel_rfl) (fun _ _ _ h => h) (Or.inl ⟨by rfl, ?y1y⟩) hSy ?_
            case y1y => (intro w hSw; (try dsimp only at hSw); go_simp; (try with_reducible rfl))
            simp only [List.getElem_toArray, List.getElem_cons_succ, List.getElem_cons_zero, Act.put, List.setIfInBounds_toArray, List.set_cons_zero, List.set_cons_succ]
            refine wpAnyT_take (i := 2) (v := ?v2y) rfl (by kernel_rfl) (by kernel_rfl) (by kernel_rfl) (by kernel_rfl) (fun _ _ _ h => h) (Or.inl ⟨by rfl, ?y2y⟩) hSy ?_
            case y2y => (intro w hSw; (try dsimp only at hSw); go_simp; (try with_reducible rfl))
            simp only [List.getElem_toArray, List.getElem_cons_succ, List.getElem_cons_zero, Act.put, List.setIfInBounds_toArray, List.set_cons_zero, List.set_cons_succ]
            refine wpAnyT_take (i := 3) (v := ?v3y) rfl (by kernel_rfl) (by kernel_rfl) (by kernel_rfl) (by kernel_rfl) (fun _ _ _ h => h) (Or.inl ⟨by rfl, ?y3y⟩) hSy ?_
            case y3y => (intro w hSw; (try dsimp only at hSw); go_simp; (try with_reducible rfl))
            simp only [List.getElem_toArray, List.getElem_cons_succ, List.getElem_cons_zero, Act.put, List.setIfInBounds_toArray, List.set_cons_zero, List.set_cons_succ]
            refine wpAnyT_take (i := 4) (v := ?v4y) rfl (by kernel_rfl) (by kernel_rfl) (by kernel_rfl) (by kernel_rfl) (fun _ _ _ h => h) (Or.inl ⟨by rfl, ?y4y⟩) hSy ?_
            case y4y => (intro w hSw; (try dsimp only at hSw); go_simp; (try with_reducible rfl))
            simp only [List.getElem_toArray, List.getElem_cons_succ, List.getElem_cons_zero, Act.put, List.setIfInBounds_toArray, List.set_cons_zero, List.set_cons_succ]
            refine wpAnyT_take (i := 5) (v := ?v5y) rfl (by kernel_rfl) (by kernel_rfl) (by kernel_rfl) (by kernel_rfl) (fun _ _ _ h => h) (Or.inl ⟨by rfl, ?y5y⟩) hSy ?_
            case y5y => (intro w hSw; (try dsimp only at hSw); go_simp; (try with_reducible rfl))
            simp only [List.getElem_toArray, List.getElem_cons_succ, List.getElem_cons_zero, Act.put, List.setIfInBounds_toArray, List.set_cons_zero, List.set_cons_succ]
            refine wpAnyT_take (i := 6) (v := ?v6y) rfl (by kernel_rfl) (by kernel_rfl) (by kernel_rfl) (by kernel_rfl) (fun _ _ _ h => h) (Or.inl ⟨by rfl, ?y6y⟩) hSy ?_
            case y6y => (intro w hSw; (try dsimp only at hSw); go_simp; (try with_reducible rfl))
            simp only [List.getElem_toArray, List.getElem_cons_succ, List.getElem_cons_zero, Act.put, List.setIfInBounds_toArray, List.set_cons_zero, List.set_cons_succ]
            refine wpAnyT_take (i := 7) (v := ?v7y) rfl (by kernel_rfl) (by kernel_rfl) (by kernel_rfl) (by kernel_rfl) (fun _ _ _ h => h) (Or.inl ⟨by rfl, ?y7y⟩) hSy ?_
            case y7y => (intro w hSw; (try dsimp only at hSw); go_simp; (try with_reducible rfl))
            simp only [List.getElem_toArray, List.getElem_cons_succ, List.getElem_cons_zero, Act.put, List.setIfInBounds_toArray, List.set_cons_zero, List.set_cons_succ]
            refine wpAnyT_take (i := 10) (v := ?v10y) rfl (by kernel_rfl) (by kernel_rfl) (by kernel_rfl) (by kernel_rfl) (fun _ _ _ h => h) (Or.inl ⟨by rfl, ?y10y⟩) hSy ?_
            case y10y => (intro w hSw; (try dsimp only at hSw); go_simp; (try with_reducible rfl))
            simp only [List.getElem_toArray, List.getElem_cons_succ, List.getElem_cons_zero, Act.put, List.setIfInBounds_toArray, List.set_cons_zero, List.set_cons_succ]
            refine wpAnyT_one (i := 8) (by kernel_rfl) rfl (fun K hK => ?_)
            go_simp
            refine hK.out _ _ (.inr (cell_ad nx _)) ?_
            clear hK K
            have kcy := conv1 wx' c
            refine wpAnyT_one (i := 9) (by kernel_rfl) rfl (fun K hK => ?_)
            go_simp
            refine hK.out _ _ (.inr (cell_ad nx _)) ?_
            clear hK K kcy
            have kay : Kp [] wx' (((wx'.alloc (.cells #[.int .u8 (c : Int)] 5)).drew)) := (Kp.alloc _ _ _).trans (Kp.drew _ _)
            have KAy := hid kay
            clear kay
            refine wpAnyT_one (i := 11) (by kernel_rfl) rfl (fun K hK => ?_)
            go_simp
            refine (found_pout (HW.out.keep (KWy.out.trans KAy.out) (by simp)) hi had hc HB.out _ rfl).mono ?_
            rintro e wy' ⟨rfl, kfy⟩
            have ny := (kfy.cell (World.block_lt_of_cell? _ _ (cell_ad nx _)) (by simp)).trans (cell_ad nx _)
            have KFy := hid (KAy.out.trans kfy)
            refine hK.out _ _ (.inr ny) ?_
            clear hK K kfy
            refine wpAnyT_one (i := 12) (by kernel_rfl) rfl (fun K hK => ?_)
            go_simp
            refine hK.out _ _ (.inl rfl) ?_
            clear hK K hSy
            refine wpAnyT_done (by kernel_rfl) ?_ _
            refine NoPanic.normal ?_
            go_wp2_with fail
            exact ⟨⟨i + 1, by omega, by go_num, kl.trans (KFx.out.trans KFy.out)⟩, by simp [intOf]; omega⟩
          · go_wp2_with fail
            refine wp_region_noPanic ?_
            refine wp_region_T (fun w' : World => w'.cell? ⟨N, i, none⟩ = some (.string (cls a d i))) 12 (by kernel_rfl) ?_
            have hSp : (fun w' : World => w'.cell? ⟨N, i, none⟩ = some (.string (cls a d i))) wr.drew := nA
            refine wpAnyT_take (i := 0) (v := ?v0p) rfl (by kernel_rfl) (by kernel_rfl) (by kernel_rfl) (by kernel_rfl) (fun _ _ _ h => h) (Or.inl ⟨by rfl, ?y0p⟩) hSp ?_
            case y0p => (intro w hSw; (try dsimp only at hSw); go_simp; (try with_reducible rfl))
            simp only [List.getElem_toArray, List.getElem_cons_zero, Act.put, List.setIfInBounds_toArray, List.set_cons_zero, List.set_cons_succ]
            refine wpAnyT_take (i := 1) (v := ?v1p) rfl (by kernel_rfl) (by kernel_rfl) (by kernel_rfl) (by kernel_rfl) (fun _ _ _ h => h) (Or.inl ⟨by rfl, ?y1p⟩) hSp ?_
            case y1p => (intro w hSw; (try dsimp only at hSw); go_simp; (try with_reducible rfl))
            simp only [List.getElem_toArray, List.getElem_cons_succ, List.getElem_cons_zero, Act.put, List.setIfInBounds_toArray, List.set_cons_zero, List.set_cons_succ]
            refine wpAnyT_take (i := 2) (v := ?v2p) rfl (by kernel_rfl) (by kernel_rfl) (by kernel_rfl) (by kernel_rfl) (fun _ _ _ h => h) (Or.inl ⟨by rfl, ?y2p⟩) hSp ?_
            case y2p => (intro w hSw; (try dsimp only at hSw); go_simp; (try with_reducible rfl))
            simp only [List.getElem_toArray, List.getElem_cons_succ, List.getElem_cons_zero, Act.put, List.setIfInBounds_toArray, List.set_cons_zero, List.set_cons_succ]
            refine wpAnyT_take (i := 3) (v := ?v3p) rfl (by kernel_rfl) (by kernel_rfl) (by kernel_rfl) (by kernel_rfl) (fun _ _ _ h => h) (Or.inl ⟨by rfl, ?y3p⟩) hSp ?_
            case y3p => (intro w hSw; (try dsimp only at hSw); go_simp; (try with_reducible rfl))
            simp only [List.getElem_toArray, List.getElem_cons_succ, List.getElem_cons_zero, Act.put, List.setIfInBounds_toArray, List.set_cons_zero, List.set_cons_succ]
            refine wpAnyT_take (i := 4) (v := ?v4p) rfl (by kernel_rfl) (by kernel_rfl) (by kernel_rfl) (by kernel_rfl) (fun _ _ _ h => h) (Or.inl ⟨by rfl, ?y4p⟩) hSp ?_
            case y4p => (intro w hSw; (try dsimp only at hSw); go_simp; (try with_reducible rfl))
            simp only [List.getElem_toArray, List.getElem_cons_succ, List.getElem_cons_zero, Act.put, List.setIfInBounds_toArray, List.set_cons_zero, List.set_cons_succ]
            refine wpAnyT_take (i := 5) (v := ?v5p) rfl (by kernel_rfl) (by kernel_rfl) (by kernel_rfl) (by kernel_rfl) (fun _ _ _ h => h) (Or.inl ⟨by rfl, ?y5p⟩) hSp ?_
            case y5p => (intro w hSw; (try dsimp only at hSw); go_simp; (try with_reducible rfl))
            simp only [List.getElem_toArray, List.getElem_cons_succ, List.getElem_cons_zero, Act.put, List.setIfInBounds_toArray, List.set_cons_zero, List.set_cons_succ]
            refine wpAnyT_take (i := 6) (v := ?v6p) rfl (by kernel_rfl) (by kernel_rfl) (by kernel_rfl) (by kernel_rfl) (fun _ _ _ h => h) (Or.inl ⟨by rfl, ?y6p⟩) hSp ?_
            case y6p => (intro w hSw; (try dsimp only at hSw); go_simp; (try with_reducible rfl))
            simp only [List.getElem_toArray, List.getElem_cons_succ, List.getElem_cons_zero, Act.put, List.setIfInBounds_toArray, List.set_cons_zero, List.set_cons_succ]
            refine wpAnyT_take (i := 7) (v := ?v7p) rfl (by kernel_rfl) (by kernel_rfl) (by kernel_rfl) (by kernel_rfl) (fun _ _ _ h => h) (Or.inl ⟨by rfl, ?y7p⟩) hSp ?_
            case y7p => (intro w hSw; (try dsimp only at hSw); go_simp; (try with_reducible rfl))
            simp only [List.getElem_toArray, List.getElem_cons_succ, List.getElem_cons_zero, Act.put, List.setIfInBounds_toArray, List.set_cons_zero, List.set_cons_succ]
            refine wpAnyT_take (i := 10) (v := ?v10p) rfl (by kernel_rfl) (by kernel_rfl) (by kernel_rfl) (by kernel_rfl) (fun _ _ _ h => h) (Or.inl ⟨by rfl, ?y10p⟩) hSp ?_
            case y10p => (intro w hSw; (try dsimp only at hSw); go_simp; (try with_reducible rfl))
            simp only [List.getElem_toArray, List.getElem_cons_succ, List.getElem_cons_zero, Act.put, List.setIfInBounds_toArray, List.set_cons_zero, List.set_cons_succ]
            refine wpAnyT_one (i := 8) (by kernel_rfl) rfl (fun K hK => ?_)
            go_simp
            refine hK.out _ _ (.inr (cell_ad nA _)) ?_
            clear hK K
            have kcp := conv1 wr c
            refine wpAnyT_one (i := 9) (by kernel_rfl) rfl (fun K hK => ?_)
            go_simp
            refine hK.out _ _ (.inr (cell_ad nA _)) ?_
            clear hK K kcp
            have kap : Kp [] wr (((wr.alloc (.cells #[.int .u8 (c : Int)] 5)).drew)) := (Kp.alloc _ _ _).trans (Kp.drew _ _)
            have KAp := hid kap
            clear kap
            refine wpAnyT_one (i := 11) (by kernel_rfl) rfl (fun K hK => ?_)
            go_simp
            refine (found_pin (HW.out.keep (KWx.out.trans KAp.out) (by simp)) hi had hc HB.out _ rfl).mono ?_
            rintro e wp' ⟨rfl, kfp⟩
            have np := (kfp.cell (World.block_lt_of_cell? _ _ (cell_ad nA _)) (by simp)).trans (cell_ad nA _)
            have KFp := hid (KAp.out.trans kfp)
            refine hK.out _ _ (.inr np) ?_
            clear hK K kfp
            refine wpAnyT_one (i := 12) (by kernel_rfl) rfl (fun K hK => ?_)
            go_simp
            refine hK.out _ _ (.inl rfl) ?_
            clear hK K hSp
            refine wpAnyT_done (by kernel_rfl) ?_ _
            refine NoPanic.normal ?_
            have KWq := hid (KWx.out.trans KFp.out)
            clear nA
            go_wp2_with fail
            refine wp_region_noPanic ?_
            refine wp_region_T (fun w' : World => w'.cell? ⟨N, i, none⟩ = some (.string (cls a d i))) 12 (by kernel_rfl) ?_
            have hSq : (fun w' : World => w'.cell? ⟨N, i, none⟩ = some (.string (cls a d i))) wp'.drew := np
            refine wpAnyT_take (i := 0) (v := ?v0q) rfl (by kernel_rfl) (by kernel_rfl) (by kernel_rfl) (by kernel_rfl) (fun _ _ _ h => h) (Or.inl ⟨by rfl, ?y0q⟩) hSq ?_
            case y0q => (intro w hSw; (try dsimp only at hSw); go_simp; (try with_reducible rfl))
            simp only [List.getElem_toArray, List.getElem_cons_zero, Act.put, List.setIfInBounds_toArray, List.set_cons_zero, List.set_cons_succ]
            refine wpAnyT_take (i := 1) (v := ?v1q) rfl (by kernel_rfl) (by kernel_rfl) (by kernel_rfl) (by kernel_rfl) (fun _ _ _ h => h) (Or.inl ⟨by rfl, ?y1q⟩) hSq ?_
            case y1q => (intro w hSw; (try dsimp only at hSw); go_simp; (try with_reducible rfl))
            simp only [List.getElem_toArray, List.getElem_cons_succ, List.getElem_cons_zero, Act.put, List.setIfInBounds_toArray, List.set_cons_zero, List.set_cons_succ]
            refine wpAnyT_take (i := 2) (v := ?v2q) rfl (by kernel_rfl) (by kernel_rfl) (by kernel_rfl) (by kernel_rfl) (fun _ _ _ h => h) (Or.inl ⟨by rfl, ?y2q⟩) hSq ?_
            case y2q => (intro w hSw; (try dsimp only at hSw); go_simp; (try with_reducible rfl))
            simp only [List.getElem_toArray, List.getElem_cons_succ, List.getElem_cons_zero, Act.put, List.setIfInBounds_toArray, List.set_cons_zero, List.set_cons_succ]
            refine wpAnyT_take (i := 3) (v := ?v3q) rfl (by kernel_rfl) (by kernel_rfl) (by kernel_rfl) (by kernel_rfl) (fun _ _ _ h => h) (Or.inl ⟨by rfl, ?y3q⟩) hSq ?_
            case y3q => (intro w hSw; (try dsimp only at hSw); go_simp; (try with_reducible rfl))
            simp only [List.getElem_toArray, List.getElem_cons_succ, List.getElem_cons_zero, Act.put, List.setIfInBounds_toArray, List.set_cons_zero, List.set_cons_succ]
            refine wpAnyT_take (i := 4) (v := ?v4q) rfl (by kernel_rfl) (by kernel_rfl) (by kernel_rfl) (by kernel_rfl) (fun _ _ _ h => h) (Or.inl ⟨by rfl, ?y4q⟩) hSq ?_
            case y4q => (intro w hSw; (try dsimp only at hSw); go_simp; (try with_reducible rfl))
            simp only [List.getElem_toArray, List.getElem_cons_succ, List.getElem_cons_zero, Act.put, List.setIfInBounds_toArray, List.set_cons_zero, List.set_cons_succ]
            refine wpAnyT_take (i := 5) (v := ?v5q) rfl (by kernel_rfl) (by kernel_rfl) (by kernel_rfl) (by kernel_rfl) (fun _ _ _ h => h) (Or.inl ⟨by rfl, ?y5q⟩) hSq ?_
            case y5q => (intro w hSw; (try dsimp only at hSw); go_simp; (try with_reducible rfl))
            simp only [List.getElem_toArray, List.getElem_cons_succ, List.getElem_cons_zero, Act.put, List.setIfInBounds_toArray, List.set_cons_zero, List.set_cons_succ]
            refine wpAnyT_take (i := 6) (v := ?v6q) rfl (by kernel_rfl) (by kernel_rfl) (by kernel_rfl) (by kernel_rfl) (fun _ _ _ h => h) (Or.inl ⟨by rfl, ?y6q⟩) hSq ?_
            case y6q => (intro w hSw; (try dsimp only at hSw); go_simp; (try with_reducible rfl))
            simp only [List.getElem_toArray, List.getElem_cons_succ, List.getElem_cons_zero, Act.put, List.setIfInBounds_toArray, List.set_cons_zero, List.set_cons_succ]
            refine wpAnyT_take (i := 7) (v := ?v7q) rfl (by kernel_rfl) (by kernel_rfl) (by kernel_rfl) (by kernel_rfl) (fun _ _ _ h => h) (Or.inl ⟨by rfl, ?y7q⟩) hSq ?_
            case y7q => (intro w hSw; (try dsimp only at hSw); go_simp; (try with_reducible rfl))
            simp only [List.getElem_toArray, List.getElem_cons_succ, List.getElem_cons_zero, Act.put, List.setIfInBounds_toArray, List.set_cons_zero, List.set_cons_succ]
            refine wpAnyT_take (i := 10) (v := ?v10q) rfl (by kernel_rfl) (by kernel_rfl) (by kernel_rfl) (by kernel_rfl) (fun _ _ _ h => h) (Or.inl ⟨by rfl, ?y10q⟩) hSq ?_
            case y10q => (intro w hSw; (try dsimp only at hSw); go_simp; (try with_reducible rfl))
            simp only [List.getElem_toArray, List.getElem_cons_succ, List.getElem_cons_zero, Act.put, List.setIfInBounds_toArray, List.set_cons_zero, List.set_cons_succ]
            refine wpAnyT_one (i := 8) (by kernel_rfl) rfl (fun K hK => ?_)
            go_simp
            refine hK.out _ _ (.inr (cell_ad np _)) ?_
            clear hK K
            have kcq := conv1 wp' c
            refine wpAnyT_one (i := 9) (by kernel_rfl) rfl (fun K hK => ?_)
            go_simp
            refine hK.out _ _ (.inr (cell_ad np _)) ?_
            clear hK K kcq
            have kaq : Kp [] wp' (((wp'.alloc (.cells #[.int .u8 (c : Int)] 5)).drew)) := (Kp.alloc _ _ _).trans (Kp.drew _ _)
            have KAq := hid kaq
            clear kaq
            refine wpAnyT_one (i := 11) (by kernel_rfl) rfl (fun K hK => ?_)
            go_simp
            refine (found_pout (HW.out.keep (KWq.out.trans KAq.out) (by simp)) hi had hc HB.out _ rfl).mono ?_
            rintro e wq' ⟨rfl, kfq⟩
            have nq := (kfq.cell (World.block_lt_of_cell? _ _ (cell_ad np _)) (by simp)).trans (cell_ad np _)
            have KFq := hid (KAq.out.trans kfq)
            refine hK.out _ _ (.inr nq) ?_
            clear hK K kfq
            refine wpAnyT_one (i := 12) (by kernel_rfl) rfl (fun K hK => ?_)
            go_simp
            refine hK.out _ _ (.inl rfl) ?_
            clear hK K hSq
            refine wpAnyT_done (by kernel_rfl) ?_ _
            refine NoPanic.normal ?_
            go_wp2_with fail
            exact ⟨⟨i + 1, by omega, by go_num, kl.trans (KFp.out.trans KFq.out)⟩, by simp [intOf]; omega⟩
        · go_wp2_with fail
          go_roundw
          case rel => exact ⟨k + 1, by omega, by go_num, k2.trans kl⟩
          case measure => simp [intOf]; omega
    · go_wp2_with fail
      go_ret
      exact ⟨rfl, k1.trans kr⟩
end Go.Proofs.YtanpiomfnbiilaaDoor
