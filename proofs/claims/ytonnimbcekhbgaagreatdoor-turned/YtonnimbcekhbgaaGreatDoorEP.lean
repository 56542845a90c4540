/- What is told is put behind what was told. -/
import Derived.Test.YtonnimbcekhbgaaGreatDoorEO
import Derived.Lib.AppendStr
import Derived.Lib.UnsafeStr
namespace Go.Proofs.YtonnimbcekhbgaaGreatDoor
open Go.RowKit

theorem run_appS {P : Program} {w : World} {base : Nat} {t u ty e : TypeId} {i : TypeInfo} (ht : P.underlying t = some (.slice e)) (hu : P.underlying u = some .string) (hi : P.info? e = some i) (hz : i.zero = some (.int .u8 0)) (hsize : i.size = 1) (hby : i.bytes = 1)
    {v : Value} {n : Nat} {xs : List Value} (hown : w.ownsRow base e 1 v n xs) (s : ByteArray) (h63 : n + s.size ≤ 1000000) (hbase : base ≤ w.heap.size) :
    ∃ v' w', (Builtin.append_ #[t, u] ty #[v, .string s]).run P w = .ok v' w' ∧ w'.ownsRow base e 1 v' (n + s.size) (xs ++ Lib.byteCells s.data.toList) ∧ w.grownBy w' v.ownBlock ∧ ∀ g, v'.ownBlock = some g → v.ownBlock = some g ∨ w.heap.size ≤ g := by
  obtain ⟨v', w', hr, h2, h3, h4⟩ := Lib.run_append_own_string (P := P) w base t u ty e i ht hu hi hz hsize hby v n xs hown s (by unfold maxLen; omega) (by omega) hbase
  refine ⟨v', w', hr, h2, h3, fun g hg => ?_⟩
  rcases hown.2 with ⟨rfl, rfl⟩ | ⟨g', cap, cur, rfl, hbg, hgc, hnc, hcm, hcs, htake⟩
  · by_cases hm : s.size = 0
    · rw [h4.2 ⟨rfl, hm⟩] at hg; cases hg
    · have := run_append_nil_string (P := P) (ty := ty) w t u e i (.int .u8 0) ht hu hi hz s (by omega) (by omega) (by rw [hby]; omega)
      rw [this] at hr
      injection hr with hr _
      subst hr
      have : w.heap.size = g := by simpa [Value.ownBlock] using hg
      exact .inr (by omega)
  · by_cases hroom : n + s.size ≤ cap
    · have := Lib.run_append_room_string (P := P) w t u ty e i ht hu hi hsize g' n cap cur hgc s hroom (by rw [hcs]; omega)
      rw [this] at hr
      injection hr with hr _
      subst hr
      exact .inl hg
    · have hxl : xs.length = n := by simpa using hown.1
      have := Lib.run_append_grow_string (P := P) w t u ty e i (.int .u8 0) ht hu hi hz ⟨g', 0, none⟩ n cap xs (by rw [hsize]; simpa using hxl) (hown.cells (g := g') rfl) s (by omega) (by omega) (by rw [hby]; exact growslice_fits (by omega) (by omega))
      rw [this] at hr
      injection hr with hr _
      subst hr
      have : w.heap.size = g := by simpa [Value.ownBlock] using hg
      exact .inr (by omega)

theorem wpList_appS {P : Program} {ops : Array Oper} {rest : List Oper} {o : Oper} {a : Act} {w : World} {Q : Exit → Act → World → Prop} (hgd : o.guard = none) (sl x : Operand) (t u : TypeId)
    (ho : o.op = .call { callee := .builtin .append, args := #[sl, x], argTypes := #[t, u] })
    (base : Nat) (e : TypeId) (i : TypeInfo) (ht : P.underlying t = some (.slice e)) (hu : P.underlying u = some .string) (hi : P.info? e = some i) (hz : i.zero = some (.int .u8 0))
    (hsize : i.size = 1) (hby : i.bytes = 1)
    (v : Value) (n : Nat) (xs : List Value) (hs : a.eval sl = v) (hown : w.ownsRow base e 1 v n xs) (s : ByteArray) (hx : a.eval x = .string s)
    (h63 : n + s.size ≤ 1000000) (hbase : base ≤ w.heap.size)
    (h : ∀ v' w', w'.ownsRow base e 1 v' (n + s.size) (xs ++ Lib.byteCells s.data.toList) → w.grownBy w' v.ownBlock → (∀ g, v'.ownBlock = some g → v.ownBlock = some g ∨ w.heap.size ≤ g) → wpList P ops Q rest (a.put o.dst v') w') : wpList P ops Q (o :: rest) a w := by
  refine wpList_plain hgd fun K hK => ?_
  obtain ⟨v', w', hr, h2, h3, h4⟩ := run_appS (P := P) (ty := o.type) ht hu hi hz hsize hby hown s h63 hbase
  unfold Oper.wp
  simp [execOp, ho, resolve, invoke, builtin, hs, hx, hr, Result.andThen]
  exact hK _ _ (h v' w' h2 h3 h4)

theorem Tryz.infoByte : (Tryz.prog.info? 5).map (fun i => (i.zero, i.size, i.bytes)) = some (some (.int .u8 0), 1, 1) := by kernel_rfl

/-- What came of telling a text: the row, and what else is as it was. -/
structure Added (mb c : Nat) (v : Value) (lo : Nat) (xs : List UInt8) (text : ByteArray) (w w' : World) (v' : Value) : Prop where
  row : w'.ownsRow lo 5 1 v' (xs.length + text.size + 1) (Lib.byteCells (xs ++ text.data.toList ++ [10]))
  at_ : ∀ g, v'.ownBlock = some g → v.ownBlock = some g ∨ w.heap.size ≤ g
  kp : Kp (mb :: v.ownBlock.toList) w w'
  c7 : w'.cell? ⟨mb, 7, none⟩ = some (.int .i64 ((c + text.size + 1 : Nat) : Int))
  cell : ∀ j, j ≠ 7 → w'.cell? ⟨mb, j, none⟩ = w.cell? ⟨mb, j, none⟩
  free : ∀ j, w'.frozen? ⟨mb, j, none⟩ = w.frozen? ⟨mb, j, none⟩

set_option maxRecDepth 100000 in
set_option maxHeartbeats 2000000 in
theorem add_v {w : World} {mb c lo : Nat} {v : Value} {xs : List UInt8} {text : ByteArray} (c7 : w.cell? ⟨mb, 7, none⟩ = some (.int .i64 c)) (f7 : w.frozen? ⟨mb, 7, none⟩ = false) (hrow : w.ownsRow lo 5 1 v xs.length (Lib.byteCells xs))
    (hne : v.ownBlock ≠ some mb) (hlo : lo ≤ w.heap.size) (hc : c + text.size + 1 ≤ 200000) (hx : xs.length ≤ c) :
    Calls Tryz.prog 121 #[.pointer (some ⟨mb, 5, none⟩), v, .string text] w fun r w' => ∃ v', r = .returned v' ∧ Added mb c v lo xs text w w' v' := by
  obtain ⟨i0, hi, hz0, hz1, hz2⟩ := info_parts Tryz.infoByte
  have HI := hid (And.intro hi (And.intro hz0 (And.intro hz1 hz2)))
  clear hi hz0 hz1 hz2
  have hlt := World.block_lt_of_cell? _ _ c7
  obtain ⟨t1, ht1⟩ : ∃ t1 : Nat, (text.size : Int) + 1 = (t1 : Int) := ⟨text.size + 1, by omega⟩
  obtain ⟨t2, ht2⟩ : ∃ t2 : Nat, (c : Int) + (t1 : Int) = (t2 : Int) := ⟨c + t1, by omega⟩
  have q1 := wrap_i64_nat t1 (by omega)
  have q2 := wrap_i64_nat t2 (by omega)
  have g1 : ¬ 200000 < t2 := by omega
  have k1 : Kp [mb] w (w.setCell ⟨mb, 7, none⟩ (.int .i64 t2)) := Kp.setCell _ _ (by simp)
  have o1 : Hid ((w.setCell ⟨mb, 7, none⟩ (.int .i64 (t2 : Int))).ownsRow lo 5 1 v xs.length (Lib.byteCells xs)) := hid (own_block hrow (fun p hp => k1.block p (own_lt hrow hp).2 (fun e => hne (by simp at e; rw [← e]; exact hp))))
  have HLO : Hid (lo ≤ (w.setCell ⟨mb, 7, none⟩ (.int .i64 (t2 : Int))).heap.size) := hid (Nat.le_trans hlo k1.size)
  go_enter Tryz.func121, Tryz.ntmps121
  go_wp2_with (first
    | (at_builtin; refine wpList_appS rfl _ _ 34 9 rfl lo 5 i0 Tryz.underlying34 Tryz.underlying9 HI.out.1 HI.out.2.1 HI.out.2.2.1 HI.out.2.2.2 v xs.length (Lib.byteCells xs) rfl o1.out text rfl (by omega) HLO.out ?_; intro v2 w2 ho2 hg2 hl2; have HO2 := hid ho2; have HG2 := hid hg2; have HL2 := hid hl2; clear ho2 hg2 hl2)
    | (at_builtin; refine wpList_app rfl _ _ 34 rfl lo 5 i0 (.int .u8 0) 1 1 Tryz.underlying34 HI.out.1 HI.out.2.1 HI.out.2.2.1 HI.out.2.2.2 rfl (by decide) v2 (xs.length + text.size) (Lib.byteCells xs ++ Lib.byteCells text.data.toList) rfl (own_block HO2.out (fun p hp => (Kp.alloc [] w2 _).block p (own_lt HO2.out hp).2 (by simp))) ⟨w2.heap.size, 0, none⟩ 1 1 [.int .u8 10] rfl rfl (fun j u hu => by rw [Addr.add_mid, Nat.zero_add]; exact (Bl.alloc w2 [.int .u8 10] 5).at_ j u hu) (fun u hu => by simp at hu; subst hu; rfl) (by unfold maxLen; omega) (by omega) (Nat.le_trans HLO.out (Nat.le_trans HG2.out.size (Kp.alloc [] w2 _).size)) (by omega) ?_; intro g3 cap3 w3 ho3 hg3 hor3))
  go_ret
  have s1 : (w.setCell ⟨mb, 7, none⟩ (.int .i64 (t2 : Int))).heap.size = w.heap.size := by simp [World.setCell]
  have s2 := HG2.out.size
  have ka := Kp.alloc [] w2 (.cells #[.int .u8 10] 5)
  have sa := ka.size
  have nv2 : ∀ p, p < w.heap.size → p ∉ v.ownBlock.toList → v2.ownBlock ≠ some p := fun p hp hn e => by
    rcases HL2.out p e with q | q
    · exact hn (by rw [q]; simp)
    · omega
  have nmb : mb ∉ v.ownBlock.toList := fun e => hne (by simpa using e)
  have bk : ∀ p, p < w.heap.size → p ∉ v.ownBlock.toList → w3.heap[p]? = (w.setCell ⟨mb, 7, none⟩ (.int .i64 (t2 : Int))).heap[p]? := fun p hp hn =>
    (hg3.block p (by omega) (fun e => nv2 p hp hn (by first | exact e | exact e.symm))).trans ((ka.block p (by omega) (by simp)).trans (HG2.out.block p (by omega) (fun e => hn (by first | (rw [e]; simp) | (rw [← e]; simp)))))
  have bm := bk mb hlt nmb
  refine ⟨_, rfl, ⟨?_, fun g hg => ?_, ⟨?_, ?_, ?_, ?_, fun p hp hn => ?_⟩, ?_, fun j hj => ?_, fun j => ?_⟩⟩
  · have : Lib.byteCells (xs ++ text.data.toList ++ [10]) = Lib.byteCells xs ++ Lib.byteCells text.data.toList ++ [.int .u8 10] := by simp [Lib.byteCells]
    rw [this]
    exact ho3
  · have hg' : g3 = g := by simpa [Value.ownBlock] using hg
    subst hg'
    rcases hor3 with q | q
    · rcases HL2.out g3 q with q | q
      · exact .inl q
      · exact .inr (by omega)
    · exact .inr (by omega)
  · exact hg3.os.trans (ka.os.trans (HG2.out.os.trans k1.os))
  · exact hg3.tape.trans (ka.tape.trans (HG2.out.tape.trans k1.tape))
  · exact hg3.output.trans (ka.output.trans (HG2.out.output.trans k1.output))
  · have := hg3.size; omega
  · have h1 : p ≠ mb := fun e => hn (by simp [e])
    have h2 : p ∉ v.ownBlock.toList := fun e => hn (by simp at e ⊢; exact .inr e)
    exact (bk p hp h2).trans (k1.block p hp (by simpa using h1))
  · rw [World.cell?_of_block bm, cell_same _ c7]
    congr 3
    omega
  · rw [World.cell?_of_block bm]
    exact cell_other _ (fun e => by injection e with _ e2 _; exact hj e2.symm)
  · rw [World.frozen?_of_block bm]
    simp
end Go.Proofs.YtonnimbcekhbgaaGreatDoor
