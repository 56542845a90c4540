/- What the claim needs of: GToH. -/
import Derived.Test.YtonnimbcekhbgaaGreatDoorX21
import Derived.Deep.RegionLaw
import Derived.Lib.SmallJoins

/- GToH. -/
namespace Go.Proofs.YtonnimbcekhbgaaGreatDoor
open Go.RowKit

set_option maxRecDepth 100000 in
set_option maxHeartbeats 400000 in
theorem one_size (m : Nat → Bool) (w : World) :
    Calls Tryz.prog 214 #[setV m] w fun e w' => e = .returned (.int .i64 1) ∧ Kp [] w w' := by
  go_enter Tryz.func214, Tryz.ntmps214
  go_wp2
  go_ret
  exact ⟨rfl, Kp.alloc _ _ _⟩

theorem size_of_one (v : Value) (w : World) : (method 348 225 v "ribbon/pattern.size").run Tryz.prog w = .ok (214, v) w := by kernel_rfl
theorem size_of_row (v : Value) (w : World) : (method 348 211 v "ribbon/pattern.size").run Tryz.prog w = .ok (206, v) w := by kernel_rfl
theorem size_of_branches (v : Value) (w : World) : (method 348 207 v "ribbon/pattern.size").run Tryz.prog w = .ok (204, v) w := by kernel_rfl
theorem emit_of_one (v : Value) (w : World) : (method 348 225 v "ribbon/pattern.emit").run Tryz.prog w = .ok (213, v) w := by kernel_rfl
theorem emit_of_row (v : Value) (w : World) : (method 348 211 v "ribbon/pattern.emit").run Tryz.prog w = .ok (205, v) w := by kernel_rfl
theorem emit_of_branches (v : Value) (w : World) : (method 348 207 v "ribbon/pattern.emit").run Tryz.prog w = .ok (203, v) w := by kernel_rfl

end Go.Proofs.YtonnimbcekhbgaaGreatDoor

/- The list of instructions that is being written: contracts. -/
namespace Go.Proofs.YtonnimbcekhbgaaGreatDoor
open Go.RowKit

/-- An append to what the call itself made, as one step of a region that draws its order. -/
theorem step_append_own {P : Program} {ops : Array Oper} {o : Oper} {a : Act} {w : World} {K : Act → World → Prop} {Q : Exit → Act → World → Prop} {E : Prop}
    (hg : o.guard = none) (s x : Operand) (t : TypeId) (hop : o.op = Op.call { callee := Callee.builtin Builtin.append, args := #[s, x], argTypes := #[t, t] })
    (base : Nat) (e : TypeId) (i : TypeInfo) (z : Value) (size bytes : Nat) (h1 : P.underlying t = some (.slice e)) (h2 : P.info? e = some i) (h3 : i.zero = some z) (h4 : i.size = size) (h5 : i.bytes = bytes) (h6 : z.cells.size = size) (h7 : 0 < size)
    (v : Value) (n : Nat) (xs : List Value) (hs : a.eval s = v) (hown : w.ownsRow base e size v n xs)
    (ad : Addr) (m c : Nat) (news : List Value) (hx : a.eval x = .slice (some ad) m c) (hn : news.length = m * size) (hc : ∀ j u, news[j]? = some u → w.cell? (ad.add j) = some u) (h1c : ∀ u ∈ news, u.oneCell' = true)
    (b1 : n + m ≤ maxLen) (b2 : (n + m) * bytes ≤ 140737488355328) (hbase : base ≤ w.heap.size)
    (hK : ∀ v' w', w'.ownsRow base e size v' (n + m) (xs ++ news) → w.grownBy w' v.ownBlock → K (a.put o.dst v') w') :
    if Region.wanted o (yielded ops a.tmps) = true then Oper.wp P o a w K Q else E := by
  have hw : Region.wanted o (yielded ops a.tmps) = true := by simp [Region.wanted, hg]
  rw [if_pos hw]
  obtain ⟨v', w', hrun, r1, r2, _⟩ := run_append_own (P := P) w base t o.type e i z size bytes h1 h2 h3 h4 h5 h6 h7 v n xs hown ad m c news hn hc h1c b1 b2 hbase
  unfold Oper.wp
  simp [execOp, hop, resolve, invoke, builtin, hs, hx, hrun, Result.andThen]
  exact hK v' w' r1 r2

theorem Tryz.infoIns : (Tryz.prog.info? 185).map (fun i => (i.zero, i.size, i.bytes)) = some (some (.agg #[.int .i64 0, .int .i64 0, .int .i64 0, .int .i64 0, .int .i64 0, .int .u64 0, .int .u64 0, .int .u64 0, .int .u64 0]), 9, 72) := by kernel_rfl

/-- An instruction's cells. -/
abbrev ins (kind next other slot depth : Int) (m : Nat → Bool) : List Value :=
  [.int .i64 kind, .int .i64 next, .int .i64 other, .int .i64 slot, .int .i64 depth, .int .u64 (wd m 0), .int .u64 (wd m 1), .int .u64 (wd m 2), .int .u64 (wd m 3)]

/-- The list in block L has n instructions, whose cells are xs; its depth is d, its deepest dp. -/
structure Ls (w : World) (L n : Nat) (xs : List Value) (d dp : Nat) : Prop where
  lt : L < w.heap.size
  code : ∃ v, w.cell? ⟨L, 0, none⟩ = some v ∧ w.ownsRow (L + 1) 185 9 v n xs ∧ (v = .slice none 0 0 ∨ ∃ g c, v = .slice (some ⟨g, 0, none⟩) n c)
  c1 : w.cell? ⟨L, 1, none⟩ = some (.int .i64 d)
  c2 : w.cell? ⟨L, 2, none⟩ = some (.int .i64 dp)
  free : ∀ i, w.frozen? ⟨L, i, none⟩ = false

theorem own_ne {W : World} {base size n : Nat} {e : TypeId} {v : Value} {xs : List Value} (h : W.ownsRow base e size v n xs) {k : Nat} (hk : k < base) : some k ≠ v.ownBlock := by
  rcases h.2 with ⟨hv, _⟩ | ⟨g, cap, cur, hv, hg, _⟩
  · rw [hv]; simp [Value.ownBlock]
  · rw [hv]; simp [Value.ownBlock]; omega

theorem grown_cell {W w' : World} {base size n : Nat} {e : TypeId} {v : Value} {xs : List Value} (h : W.ownsRow base e size v n xs) (hg : W.grownBy w' v.ownBlock) {p : Addr} (hp : p.block < base) (hl : p.block < W.heap.size) : w'.cell? p = W.cell? p :=
  World.cell?_of_block (w := W) (hg.block p.block hl (own_ne h hp))
theorem grown_free {W w' : World} {base size n : Nat} {e : TypeId} {v : Value} {xs : List Value} (h : W.ownsRow base e size v n xs) (hg : W.grownBy w' v.ownBlock) {p : Addr} (hp : p.block < base) (hl : p.block < W.heap.size) : w'.frozen? p = W.frozen? p :=
  World.frozen?_of_block (w := W) (hg.block p.block hl (own_ne h hp))

theorem ins_one (kind next other slot depth : Int) (m : Nat → Bool) : ∀ u ∈ ins kind next other slot depth m, u.oneCell' = true := by
  intro u hu
  simp only [ins, List.mem_cons, List.not_mem_nil, or_false] at hu
  rcases hu with h | h | h | h | h | h | h | h | h <;> subst h <;> rfl

theorem news_cells (W : World) (l : List Value) (t : TypeId) (a : Nat) (ha : a = W.heap.size) : ∀ j u, l[j]? = some u → ((W.alloc (.cells l.toArray t)).drew).cell? ((⟨a, 0, none⟩ : Addr).add j) = some u := by
  intro j u h
  subst ha
  show (W.alloc (.cells l.toArray t)).cell? _ = _
  have e : (⟨W.heap.size, 0, none⟩ : Addr).add j = ⟨W.heap.size, j, none⟩ := by unfold Addr.add; simp; exact fun h => h.symm
  rw [e]
  simpa using h

/-- What is left behind an append to a list. -/
structure AddedP (L n : Nat) (xs : List Value) (w w' : World) : Prop where
  code : ∃ g c, w'.cell? ⟨L, 0, none⟩ = some (.slice (some ⟨g, 0, none⟩) n c) ∧ w'.ownsRow (L + 1) 185 9 (.slice (some ⟨g, 0, none⟩) n c) n xs
  cell : ∀ i, w'.cell? ⟨L, i + 1, none⟩ = w.cell? ⟨L, i + 1, none⟩
  free : ∀ i, w'.frozen? ⟨L, i, none⟩ = w.frozen? ⟨L, i, none⟩
  below : Below L w w'

theorem added_of {L n : Nat} {xs ys : List Value} {v : Value} {w W w' : World} (hl : L < w.heap.size) (hv : w.cell? ⟨L, 0, none⟩ = some v) (kW : Kp [] w W) (hown : W.ownsRow (L + 1) 185 9 v n xs) (hg : W.grownBy w' v.ownBlock)
    {g c n' : Nat} (hown' : w'.ownsRow (L + 1) 185 9 (.slice (some ⟨g, 0, none⟩) n' c) n' ys) : AddedP L n' ys w (w'.setCell ⟨L, 0, none⟩ (.slice (some ⟨g, 0, none⟩) n' c)) := by
  have hlW : L < W.heap.size := Nat.lt_of_lt_of_le hl kW.size
  have hc : ∀ i, w'.cell? ⟨L, i, none⟩ = w.cell? ⟨L, i, none⟩ := fun i => (grown_cell hown hg (p := ⟨L, i, none⟩) (Nat.lt_succ_self _) hlW).trans (kW.cell hl (by simp))
  have hf : ∀ i, w'.frozen? ⟨L, i, none⟩ = w.frozen? ⟨L, i, none⟩ := fun i => (grown_free hown hg (p := ⟨L, i, none⟩) (Nat.lt_succ_self _) hlW).trans (kW.frozen hl (by simp))
  refine ⟨⟨g, c, cell_same _ ((hc 0).trans hv), ownsRow_setCell_below hown' (Nat.lt_succ_self _) _⟩, fun i => ?_, fun i => ?_, ?_⟩
  · rw [cell_other _ (by simp)]; exact hc _
  · simpa using hf i
  · refine Below.setCell (p := ⟨L, 0, none⟩) ?_ (Nat.le_refl L) _
    exact ⟨hg.os.trans kW.os, hg.tape.trans kW.tape, hg.output.trans kW.output, Nat.le_trans kW.size hg.size,
      fun k hk => (hg.block k (by omega) (own_ne hown (by omega))).trans (kW.block k (by omega) (by simp))⟩

set_option maxRecDepth 100000 in
set_option maxHeartbeats 1600000 in
theorem add_any' {L n : Nat} {xs : List Value} {v : Value} {w : World} (hv : w.cell? ⟨L, 0, none⟩ = some v) (hown : w.ownsRow (L + 1) 185 9 v n xs) (hn : n ≤ 100000) (hl : L < w.heap.size) (hf : w.frozen? ⟨L, 0, none⟩ = false) (kind next other slot depth : Int) (m : Nat → Bool) :
    Calls Tryz.prog 144 #[.pointer (some ⟨L, 0, none⟩), .agg (ins kind next other slot depth m).toArray] w fun e w' => e = .returned (.int .i64 n) ∧
      AddedP L (n + 1) (xs ++ ins kind next other slot depth m) w w' := by
  obtain ⟨i0, hi, hz0, hz1, hz2⟩ := info_parts Tryz.infoIns
  have HO := hid hown
  have HV := hid hv
  have HF := hid hf
  have HL := hid hl
  clear hown
  have hins := ins_one kind next other slot depth m
  have HI := hid hins
  clear hins
  unfold ins at *
  go_enter Tryz.func144, Tryz.ntmps144
  go_wp2
  go_region_law (refine step_append_own rfl (.tmp 9) (.tmp 11) 153 rfl (L + 1) 185 i0 _ 9 72 Tryz.underlying153 hi hz0 hz1 hz2 rfl (by decide) v n xs (by simp [Act.eval]) (((HO.out.alloc _).alloc _).drew) ⟨w.heap.size + 1, 0, none⟩ 1 1 _ (by simp [Act.eval]) rfl (by exact news_cells (w.alloc _) _ _ _ (by simp)) HI.out (by unfold maxLen; omega) (by omega) (by simp; omega) ?_; intro v' w' hown' hgrow; have hex := Joins.ownsRow_form hown' (by omega); obtain ⟨g, c, hv'⟩ := hex; rw [hv'] at hown' ⊢; have c0' := ((grown_cell ((HO.out.alloc _).alloc _).drew hgrow (p := ⟨L, 0, none⟩) (Nat.lt_succ_self _) (by simp; omega)).trans (((Kp.alloc [] _ _).trans ((Kp.alloc _ _ _).trans (Kp.drew _ _))).cell HL.out (by simp))).trans HV.out; have f0' := ((grown_free ((HO.out.alloc _).alloc _).drew hgrow (p := ⟨L, 0, none⟩) (Nat.lt_succ_self _) (by simp; omega)).trans (((Kp.alloc [] _ _).trans ((Kp.alloc _ _ _).trans (Kp.drew _ _))).frozen HL.out (by simp))).trans HF.out; have HO' := hid hown'; have HG := hid hgrow; clear hown' hgrow hv')
  all_goals go_wp2
  all_goals go_ret
  all_goals exact ⟨rfl, added_of HL.out HV.out ((Kp.alloc _ _ _).trans ((Kp.alloc _ _ _).trans (Kp.drew _ _))) ((HO.out.alloc _).alloc _).drew HG.out HO'.out⟩

theorem Ls.added {w w' : World} {L n : Nat} {xs ys : List Value} {d dp : Nat} {n' : Nat} (h : Ls w L n xs d dp) (a : AddedP L n' ys w w') : Ls w' L n' ys d dp := by
  obtain ⟨g, c, h1, h2⟩ := a.code
  exact ⟨Nat.lt_of_lt_of_le h.lt a.below.size, ⟨_, h1, h2, .inr ⟨g, c, rfl⟩⟩, (a.cell 0).trans h.c1, (a.cell 1).trans h.c2, fun i => (a.free i).trans (h.free i)⟩

theorem Ls.keep {w w' : World} {L n : Nat} {xs : List Value} {d dp : Nat} (h : Ls w L n xs d dp) (k : Kp [] w w') : Ls w' L n xs d dp := by
  obtain ⟨v, h1, h2, h3⟩ := h.code
  refine ⟨Nat.lt_of_lt_of_le h.lt k.size, ⟨v, (k.cell h.lt (by simp)).trans h1, ⟨h2.1, ?_⟩, h3⟩, (k.cell h.lt (by simp)).trans h.c1, (k.cell h.lt (by simp)).trans h.c2, fun i => (k.frozen h.lt (by simp)).trans (h.free i)⟩
  rcases h2.2 with q | ⟨g, cap, cur, q1, q2, q3, q4⟩
  · exact .inl q
  · exact .inr ⟨g, cap, cur, q1, q2, (k.block g (lt_of_block q3) (by simp)).trans q3, q4⟩

theorem listAdd {L n : Nat} {xs : List Value} {d dp : Nat} {w : World} (h : Ls w L n xs d dp) (hn : n ≤ 100000) (kind next other slot depth : Int) (m : Nat → Bool) :
    Calls Tryz.prog 144 #[.pointer (some ⟨L, 0, none⟩), .agg (ins kind next other slot depth m).toArray] w fun e w' => e = .returned (.int .i64 n) ∧ Ls w' L (n + 1) (xs ++ ins kind next other slot depth m) d dp ∧ Below L w w' := by
  obtain ⟨v, h1, h2, _⟩ := h.code
  exact (add_any' h1 h2 hn h.lt (h.free 0) kind next other slot depth m).mono fun e w' ⟨he, ha⟩ => ⟨he, h.added ha, ha.below⟩

set_option maxRecDepth 100000 in
set_option maxHeartbeats 800000 in
theorem one_emit {L n : Nat} {xs : List Value} {d dp : Nat} {w : World} (h : Ls w L n xs d dp) (hn : n ≤ 100000) (next : Int) (m : Nat → Bool) :
    Calls Tryz.prog 213 #[setV m, .pointer (some ⟨L, 0, none⟩), .int .i64 next] w fun e w' => e = .returned (.int .i64 n) ∧ Ls w' L (n + 1) (xs ++ ins 0 next 0 0 d m) d dp ∧ Below L w w' := by
  have c1 := h.c1
  have hl := h.lt
  go_enter Tryz.func213, Tryz.ntmps213
  go_wp2
  go_region_with (go_at_call 144; refine (listAdd (h.keep (by exact (Kp.alloc _ _ _).trans (Kp.drew _ _))) hn 0 next 0 0 d m).mono ?_; rintro e w1 ⟨rfl, h1, b1⟩)
  all_goals go_wp2
  all_goals go_ret
  all_goals exact ⟨rfl, h1, (((Below.refl L w).alloc (by omega) _).drew).trans b1⟩

end Go.Proofs.YtonnimbcekhbgaaGreatDoor
