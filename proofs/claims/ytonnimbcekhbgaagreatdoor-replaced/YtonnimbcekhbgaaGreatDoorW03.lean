/- What the claim needs of: ERToES OToQ UToV. -/
import Derived.Test.YtonnimbcekhbgaaGreatDoorW00
import Derived.Deep.RegionHeld3
import Derived.StillTail
import Derived.Great.BuildSlice
import Derived.Test.YtonnimbcekhbgaaGreatDoorW02

/- ERToES. -/
namespace Go.Proofs.YtonnimbcekhbgaaGreatDoor
open Go.RowKit

section
variable {P : Program} {md : Region.Mode} {ops : Array Oper} {Q : Exit → Act → World → Prop} {S : World → Prop} {z : Nat}

/-- Whatever order is picked; behind each operation but number z S holds. -/
def wpAnyT (P : Program) (md : Region.Mode) (ops : Array Oper) (Q : Exit → Act → World → Prop) (S : World → Prop) (z : Nat) : Nat → Array Bool → Act → World → Prop
  | 0, listed, a, w => Region.ready md ops listed = [] ∧ Q .normal a w
  | fuel + 1, listed, a, w => (Region.ready md ops listed = [] → Q .normal a w) ∧
      ∀ i ∈ Region.ready md ops listed, wpOp P ops Q i (fun a' w' => (i = z ∨ S w') ∧ wpAnyT P md ops Q S z fuel (listed.setIfInBounds i true) a' w') a w

theorem wpAny_of_T : ∀ (fuel : Nat) (listed : Array Bool) (a : Act) (w : World), wpAnyT P md ops Q S z fuel listed a w → wpAny P md ops Q fuel listed a w
  | 0, _, _, _, h => h
  | fuel + 1, _, _, _, h => ⟨h.1, fun i hi => wpOp_mono (fun a' w' q => wpAny_of_T fuel _ a' w' q.2) (h.2 i hi)⟩

theorem wpAnyT_first {i : Nat} {oi : Oper} {v : Value} (hi : ops[i]? = some oi) (hsel : ∀ (j : Nat) (o : Oper) cs b, ops[j]? = some o → o.op ≠ .select cs b)
    (hQ : ∀ c a w, Q (.panic c) (a.put oi.dst v) w → Q (.panic c) a w) (hz : Region.waitsFor md ops z i = true) (fuel : Nat) :
    ∀ (listed : Array Bool) (a : Act) (w : World),
      (∀ j oj, ops[j]? = some oj → j ≠ i → listed.getD j true = false → (∀ e ∈ oj.after, Region.binds md e = true → e.on ≠ i) → oi.apart ops oj = true) →
      i ∈ Region.ready md ops listed → YieldsIf P ops S oi v a → S w →
      wpAnyT P md ops Q S z fuel (listed.setIfInBounds i true) (a.put oi.dst v) w → wpAnyT P md ops Q S z (fuel + 1) listed a w := by
  induction fuel with
  | zero =>
    intro listed a w _ hr hy hS H
    refine ⟨fun h => (by rw [h] at hr; cases hr), fun j hj => ?_⟩
    by_cases hji : j = i
    · subst hji; exact hy.wpOp hi hS ⟨.inr hS, H⟩
    · have := ready_mono hj hji
      rw [H.1] at this
      cases this
  | succ fuel ih =>
    intro listed a w hfree hr hy hS H
    refine ⟨fun h => (by rw [h] at hr; cases hr), fun j hj => ?_⟩
    by_cases hji : j = i
    · subst hji; exact hy.wpOp hi hS ⟨.inr hS, H⟩
    · have h1 := H.2 j (ready_mono hj hji)
      obtain ⟨hjun, oj, hoj, hall⟩ := mem_ready.1 hj
      have hnot : ∀ e ∈ oj.after, Region.binds md e = true → e.on ≠ i := fun e he hb heq => by
        have h1 := hall e he hb
        have h0 := (mem_ready.1 hr).1
        rw [heq] at h1
        rcases Nat.lt_or_ge i listed.size with h' | h'
        · simp [h'] at h0 h1; rw [h0] at h1; cases h1
        · simp [Array.getElem?_eq_none h'] at h1
      have h2 := wpOp_putIf hoj (hfree j oj hoj hji hjun hnot) (fun cs b => hsel i oi cs b hi) (fun cs b => hsel j oj cs b hoj) hQ hy h1
      have hjz : j ≠ z := fun e => by
        obtain ⟨oz, hoz, x, hx, hb, hon⟩ := Region.waitsFor_spec hz
        rw [e, hoz] at hoj
        have e2 := Option.some.inj hoj
        exact hnot x (e2 ▸ hx) hb hon
      have hfree' : ∀ k ok, ops[k]? = some ok → k ≠ i → (listed.setIfInBounds j true).getD k true = false →
          (∀ e ∈ ok.after, Region.binds md e = true → e.on ≠ i) → oi.apart ops ok = true := fun k ok hk hki hun hno => by
        refine hfree k ok hk hki ?_ hno
        by_cases hjk : j = k
        · subst hjk; exact hjun
        · rw [getD_set_ne true hjk] at hun; exact hun
      refine wpOp_mono (fun a' w' h3 => ?_) h2
      have hS' : S w' := h3.2.1.resolve_left hjz
      refine ⟨.inr hS', ih (listed.setIfInBounds j true) a' w' hfree' (ready_mono hr (Ne.symm hji)) h3.1 hS' ?_⟩
      rw [Array.setIfInBounds_comm _ _ hji]
      exact h3.2.2

theorem wpAnyT_take {i : Nat} {oi : Oper} {v : Value} {fuel : Nat} {listed : Array Bool} {a : Act} {w : World} (hi : ops[i]? = some oi)
    (hs : Region.noSelect ops = true) (hf : Region.free md ops listed i = true) (hr : (Region.ready md ops listed).contains i = true) (hz : Region.waitsFor md ops z i = true)
    (hQ : ∀ c a w, Q (.panic c) (a.put oi.dst v) w → Q (.panic c) a w) (hy : YieldsIf P ops S oi v a) (hS : S w)
    (h : wpAnyT P md ops Q S z fuel (listed.setIfInBounds i true) (a.put oi.dst v) w) : wpAnyT P md ops Q S z (fuel + 1) listed a w :=
  wpAnyT_first hi (Region.noSelect_spec hs) hQ hz fuel listed a w (Region.free_spec hi hf) (by simpa using hr) hy hS h

/-- One alone may come up. -/
theorem wpAnyT_one {i : Nat} {o : Oper} {fuel : Nat} {listed : Array Bool} {a : Act} {w : World} (hr : Region.ready md ops listed = [i]) (ho : ops[i]? = some o)
    (h : ∀ K : Act → World → Prop, Shut (∀ a' w', (i = z ∨ S w') → wpAnyT P md ops Q S z fuel (listed.setIfInBounds i true) a' w' → K a' w') → if Region.wanted o (yielded ops a.tmps) = true then Oper.wp P o a w K Q else K (a.put o.dst undef) w) :
    wpAnyT P md ops Q S z (fuel + 1) listed a w := by
  refine ⟨fun h0 => (by rw [hr] at h0; cases h0), fun j hj => ?_⟩
  rw [hr] at hj
  have e := List.mem_singleton.1 hj
  subst e
  exact wpOp_step ho (fun K hK => h K (fun a' w' h1 h2 => hK a' w' ⟨h1, h2⟩))

/-- Two may come up. -/
theorem wpAnyT_two {i j : Nat} {o o' : Oper} {fuel : Nat} {listed : Array Bool} {a : Act} {w : World} (hr : Region.ready md ops listed = [i, j]) (ho : ops[i]? = some o) (ho' : ops[j]? = some o')
    (h : ∀ K : Act → World → Prop, Shut (∀ a' w', (i = z ∨ S w') → wpAnyT P md ops Q S z fuel (listed.setIfInBounds i true) a' w' → K a' w') → if Region.wanted o (yielded ops a.tmps) = true then Oper.wp P o a w K Q else K (a.put o.dst undef) w)
    (h' : ∀ K : Act → World → Prop, Shut (∀ a' w', (j = z ∨ S w') → wpAnyT P md ops Q S z fuel (listed.setIfInBounds j true) a' w' → K a' w') → if Region.wanted o' (yielded ops a.tmps) = true then Oper.wp P o' a w K Q else K (a.put o'.dst undef) w) :
    wpAnyT P md ops Q S z (fuel + 1) listed a w := by
  refine ⟨fun h0 => (by rw [hr] at h0; cases h0), fun k hk => ?_⟩
  rw [hr] at hk
  rcases List.mem_cons.1 hk with e | hk
  · subst e; exact wpOp_step ho (fun K hK => h K (fun a' w' h1 h2 => hK a' w' ⟨h1, h2⟩))
  · have e := List.mem_singleton.1 hk
    subst e
    exact wpOp_step ho' (fun K hK => h' K (fun a' w' h1 h2 => hK a' w' ⟨h1, h2⟩))

theorem wpAnyT_done {listed : Array Bool} {a : Act} {w : World} (hr : Region.ready md ops listed = []) (h : Q .normal a w) : ∀ fuel, wpAnyT P md ops Q S z fuel listed a w
  | 0 => ⟨hr, h⟩
  | _ + 1 => ⟨fun _ => h, by rw [hr]; intro i hi; cases hi⟩

theorem wp_region_T {id : Nat} {a : Act} {w : World} (S : World → Prop) (z : Nat) (hm : P.follows .mixedOrders = true)
    (h : wpAnyT P .any ops Q S z ops.size (Array.replicate ops.size false) a w.drew) : (Code.region id ops true).wp P Q a w :=
  wp_region_any hm (wpAny_of_T _ _ _ _ h)
end
end Go.Proofs.YtonnimbcekhbgaaGreatDoor

/- A slice literal of one struct. -/
namespace Go.Proofs.YtonnimbcekhbgaaGreatDoor
open Go.RowKit

theorem fold_set : ∀ (l : List Value) (o : Nat) (z : Array Value), o + l.length ≤ z.size → ((l.zipIdx o).foldl (fun (cs : Array Value) (p : Value × Nat) => cs.setIfInBounds p.2 p.1) z).toList = z.toList.take o ++ l ++ z.toList.drop (o + l.length)
  | [], o, z, _ => by simp
  | v :: l, o, z, h => by
    rw [List.length_cons] at h
    rw [List.zipIdx_cons, List.foldl_cons, fold_set l (o + 1) _ (by simp; omega)]
    have ho : o < z.toList.length := by simp; omega
    rw [Array.toList_setIfInBounds, List.take_set, List.drop_set_of_lt (by omega), List.length_cons, show o + 1 + l.length = o + (l.length + 1) by omega]
    congr 1
    rw [show v :: l = [v] ++ l from rfl, ← List.append_assoc]
    congr 1
    rw [List.take_succ_eq_append_getElem ho, List.set_append_right _ _ (by rw [List.length_take]; omega)]
    congr 1
    rw [List.length_take, Nat.min_eq_left (by omega), Nat.sub_self]
    rfl

theorem fill_one {n : Nat} {z : Array Value} {cv : List Value} (h : cv.length = n) (hz : z.size = n) : Instr.fill (fun i => some (i * n, n)) z [(0, .agg cv.toArray)] = some cv.toArray := by
  have e := fold_set cv 0 z (by omega)
  simp only [Nat.zero_add, List.take_zero, List.nil_append] at e
  rw [List.drop_eq_nil_of_le (by simp; omega), List.append_nil] at e
  simp [Instr.fill, Value.cells, h, hz]
  apply Array.toList_inj.1
  exact e

/-- A slice literal of one struct, as one step of a region that draws its order. -/
theorem step_one {P : Program} {ops : Array Oper} {o : Oper} {a : Act} {w : World} {K : Act → World → Prop} {Q : Exit → Act → World → Prop} {E : Prop} (hg : o.guard = none) (t e : TypeId) (x : Operand) (ho : o.op = .buildSlice t 1 #[(0, x)])
    (cv : List Value) (ie : TypeInfo) (z : Value) (n : Nat) (hx : a.eval x = .agg cv.toArray) (hu : P.underlying t = some (.slice e)) (hie : P.info? e = some ie) (hz : ie.zero = some z) (hn : ie.size = n) (hzs : z.cells.size = n) (hl : cv.length = n) (h0 : 0 < n) (h24 : n ≤ 1000)
    (h : K (a.put o.dst (.slice (some ⟨w.heap.size, 0, none⟩) 1 1)) (w.alloc (.cells cv.toArray e))) : if Region.wanted o (yielded ops a.tmps) = true then Oper.wp P o a w K Q else E := by
  have hw : Region.wanted o (yielded ops a.tmps) = true := by simp [Region.wanted, hg]
  rw [if_pos hw]
  refine wp_buildSlice t e 1 _ ho cv.toArray ie z hu hie hz (by rw [hn]; omega) (by rw [hn]; omega) ?_ h
  simp only [List.map_toArray, List.map_cons, List.map_nil, hx, hn]
  exact fill_one hl (by simp)
end Go.Proofs.YtonnimbcekhbgaaGreatDoor

/- OToQ. -/
namespace Go.Proofs.YtonnimbcekhbgaaGreatDoor
open Go.RowKit

set_option maxRecDepth 100000 in
set_option maxHeartbeats 2000000 in
/-- No byte of the set stands there, or none at all. -/
theorem step_byte_end {w : World} {f p t g n c a pl : Nat} {text : ByteArray}
    (c0 : w.cell? ⟨f, 0, none⟩ = some (.pointer (some ⟨p, 0, none⟩))) (c1 : w.cell? ⟨f, 1, none⟩ = some (.string text)) (c2 : w.cell? ⟨f, 2, none⟩ = some (.int .i64 pl))
    (p0 : w.cell? ⟨p, 0, none⟩ = some (.slice (some ⟨g, 0, none⟩) n c)) (t0 : w.cell? ⟨t, 0, none⟩ = some (.int .i64 a)) (ha : a < n)
    (i0 : w.cell? ⟨g, a * 9, none⟩ = some (.int .i64 0)) (hlt : decide (pl < text.size) = false) :
    Calls Tryz.prog 166 #[.pointer (some ⟨f, 0, none⟩), .pointer (some ⟨t, 0, none⟩)] w fun e w' => e = .returned (.bool false) ∧ Kp [] w w' := by
  go_enter Tryz.func166, Tryz.ntmps166
  go_wp2
  go_quiet (fail)
  go_wp2
  go_quiet (fail)
  go_wp2
  go_ret
  exact ⟨rfl, (Kp.drewN _ _ _).trans (Kp.drewN _ _ _)⟩

/-- The worlds in which all that was there is as it was. -/
structure Ext (W : World) where
  val : World
  ok : Kp [] W val

/-- A region that draws its order, whose operations read and whose callees make memory at most: one walk serves every order. -/
theorem wp_region_ext {P : Program} {id : Nat} {Q : Exit → Act → World → Prop} {a : Act} {w : World} {l : List Oper} (hm : P.follows .mixedOrders = true) (hB : Region.lexB .any l.toArray = true)
    (h : wpQuiet P l.toArray (fun w' => ∃ x : Ext w, w' = x.val) (fun a' => ∀ w', (∃ x : Ext w, w' = x.val) → Q .normal a' w') l a) : (Code.region id l.toArray true).wp P Q a w :=
  wp_region_quiet (C := fun w' => ∃ x : Ext w, w' = x.val) hm hB ⟨⟨w.drew, Kp.drew _ _⟩, rfl⟩ (by simpa using h)

theorem Ext.cell {W : World} {a : Addr} {v : Value} (h : W.cell? a = some v) : ∀ x : Ext W, x.val.cell? a = some v := fun x => (x.ok.cell (World.block_lt_of_cell? _ _ h) (by simp)).trans h

theorem has_ext (m : Nat → Bool) (y : Nat) (hy : y < 256) {b : Bool} (hb : m y = b) {W : World} (x : Ext W) :
    Calls Tryz.prog 170 #[setV m, .int .u8 y] x.val fun e w'' => e = .returned (.bool b) ∧ ∃ z : Ext W, w'' = z.val := by
  subst hb
  exact (has_any m y hy x.val).mono fun e w'' ⟨he, k⟩ => ⟨he, ⟨w'', x.ok.trans k⟩, rfl⟩

set_option maxRecDepth 100000 in
set_option maxHeartbeats 2000000 in
theorem step_byte_miss {w : World} {f p t g n c a pl : Nat} {text : ByteArray} {m : Nat → Bool}
    (c0 : w.cell? ⟨f, 0, none⟩ = some (.pointer (some ⟨p, 0, none⟩))) (c1 : w.cell? ⟨f, 1, none⟩ = some (.string text)) (c2 : w.cell? ⟨f, 2, none⟩ = some (.int .i64 pl))
    (p0 : w.cell? ⟨p, 0, none⟩ = some (.slice (some ⟨g, 0, none⟩) n c)) (t0 : w.cell? ⟨t, 0, none⟩ = some (.int .i64 a)) (ha : a < n)
    (i0 : w.cell? ⟨g, a * 9, none⟩ = some (.int .i64 0)) (i5 : w.cell? ⟨g, a * 9 + 5, none⟩ = some (.int .u64 (wd m 0))) (i6 : w.cell? ⟨g, a * 9 + 5 + 1, none⟩ = some (.int .u64 (wd m 1)))
    (i7 : w.cell? ⟨g, a * 9 + 5 + 2, none⟩ = some (.int .u64 (wd m 2))) (i8 : w.cell? ⟨g, a * 9 + 5 + 3, none⟩ = some (.int .u64 (wd m 3)))
    (hlt : pl < text.size) (hm : m (text[pl]).toNat = false) :
    Calls Tryz.prog 166 #[.pointer (some ⟨f, 0, none⟩), .pointer (some ⟨t, 0, none⟩)] w fun e w' => e = .returned (.bool false) ∧ Kp [] w w' := by
  have HM := hid hm
  clear hm
  go_enter Tryz.func166, Tryz.ntmps166
  go_wp2
  go_quiet (fail)
  go_wp2
  generalize hw1 : w.drewN nq = w1
  have k1 : Kp [] w w1 := by rw [← hw1]; exact Kp.drewN _ _ _
  clear hw1
  have d1 := Ext.cell ((k1.cell (World.block_lt_of_cell? _ _ c1) (by simp)).trans c1)
  have d2 := Ext.cell ((k1.cell (World.block_lt_of_cell? _ _ c2) (by simp)).trans c2)
  have d5 := Ext.cell ((k1.cell (World.block_lt_of_cell? _ _ i5) (by simp)).trans i5)
  have d6 := Ext.cell ((k1.cell (World.block_lt_of_cell? _ _ i6) (by simp)).trans i6)
  have d7 := Ext.cell ((k1.cell (World.block_lt_of_cell? _ _ i7) (by simp)).trans i7)
  have d8 := Ext.cell ((k1.cell (World.block_lt_of_cell? _ _ i8) (by simp)).trans i8)
  clear c0 c1 c2 p0 t0 i0 i5 i6 i7 i8
  have hne : Nonempty (Ext w1) := ⟨⟨w1, Kp.refl _ _⟩⟩
  refine wp_region_ext (by kernel_rfl) (by kernel_rfl) ?_
  repeat (refine wpQuiet_step (fun K hK => ?_); go_simp; first | (refine hK _ ?_; clear hK K) | (apply Exists.intro; refine ⟨fun x => ?_, hK _ ?_⟩; exact has_ext m _ (UInt8.toNat_lt _) HM.out x; clear hK K))
  refine wpQuiet_nil ?_
  intro w' hw'
  obtain ⟨x, hx⟩ := hw'
  subst hx
  go_wp2
  go_ret
  exact ⟨rfl, k1.trans x.ok⟩
end Go.Proofs.YtonnimbcekhbgaaGreatDoor

/- The finder: an instruction that takes the byte that stands there. -/
namespace Go.Proofs.YtonnimbcekhbgaaGreatDoor
open Go.RowKit

theorem Tryz.infoTh : (Tryz.prog.info? 189).map (fun i => (i.zero, i.size, i.bytes)) = some (some (.agg #[.int .i64 0, .int .i64 0, .int .i64 0, .int .i64 0, .int .i64 0, .int .i64 0, .int .i64 0, .int .i64 0, .int .i64 0, .int .i64 0, .int .i64 0, .int .i64 0, .int .i64 0, .int .i64 0, .int .i64 0, .int .i64 0, .int .i64 0, .int .i64 0, .int .i64 0, .int .i64 0, .int .i64 0, .int .i64 0]), 22, 176) := by kernel_rfl

theorem grown_cell' {W w' : World} {row : Option Nat} (hg : W.grownBy w' row) {p : Addr} (hp : some p.block ≠ row) {v : Value} (h : W.cell? p = some v) : w'.cell? p = some v :=
  (World.cell?_of_block (w := W) (hg.block p.block (World.block_lt_of_cell? _ _ h) hp)).trans h
theorem grown_free' {W w' : World} {row : Option Nat} (hg : W.grownBy w' row) {p : Addr} (hp : some p.block ≠ row) (hl : p.block < W.heap.size) : w'.frozen? p = W.frozen? p :=
  World.frozen?_of_block (w := W) (hg.block p.block hl hp)
theorem rangeAt_keep {S : List Nat} {w w' : World} {b o : Nat} {cs : List Value} (h : w.rangeAt b o cs) (k : Kp S w w') (hb : b ∉ S) : w'.rangeAt b o cs :=
  fun j v hv => (k.cell (World.block_lt_of_cell? _ _ (h j v hv)) hb).trans (h j v hv)
theorem rangeAt_grown {W w' : World} {row : Option Nat} {b o : Nat} {cs : List Value} (h : W.rangeAt b o cs) (hg : W.grownBy w' row) (hp : some b ≠ row) : w'.rangeAt b o cs :=
  fun j v hv => grown_cell' hg hp (h j v hv)

theorem ownsRow_setCell_far {w : World} {base size n : Nat} {e : TypeId} {g c : Nat} {xs : List Value} (h : w.ownsRow base e size (.slice (some ⟨g, 0, none⟩) n c) n xs) {a : Addr} (ha : g ≠ a.block) {u : Value} : (w.setCell a u).ownsRow base e size (.slice (some ⟨g, 0, none⟩) n c) n xs := by
  refine ⟨h.1, ?_⟩
  rcases h.2 with q | ⟨g', cap, cur, q1, q2, q3, q4⟩
  · exact .inl q
  · refine .inr ⟨g', cap, cur, q1, q2, ?_, q4⟩
    have e : g = g' := by simp at q1; exact q1.1
    rw [Below.heap_setCell _ _ _ _ (e ▸ ha)]; exact q3

theorem cell_ad {w : World} {a : Addr} {v : Value} (h : w.cell? a = some v) (o : Obj) : (w.alloc o).drew.cell? a = some v :=
  ((Kp.alloc [] w o).cell (World.block_lt_of_cell? _ _ h) (by simp)).trans h
theorem free_ad {w : World} {a : Addr} {v : Value} (hc : w.cell? a = some v) (h : w.frozen? a = false) (o : Obj) : (w.alloc o).drew.frozen? a = false :=
  ((Kp.alloc [] w o).frozen (World.block_lt_of_cell? _ _ hc) (by simp)).trans h
theorem range_ad {w : World} {b k : Nat} {cs : List Value} (h : w.rangeAt b k cs) (o : Obj) : (w.alloc o).drew.rangeAt b k cs := fun j v hv => cell_ad (h j v hv) o

/-- All blocks that were there but f and one more are as they were; of f all cells but number 4. -/
structure Hit (f : Nat) (row : Option Nat) (w w' : World) : Prop where
  os : w'.os = w.os
  tape : w'.tape = w.tape
  output : w'.output = w.output
  size : w.heap.size ≤ w'.heap.size
  block : ∀ k, k < w.heap.size → k ≠ f → some k ≠ row → w'.heap[k]? = w.heap[k]?
  cell : ∀ i, i ≠ 4 → w'.cell? ⟨f, i, none⟩ = w.cell? ⟨f, i, none⟩
  free : ∀ i, w'.frozen? ⟨f, i, none⟩ = w.frozen? ⟨f, i, none⟩

theorem step_post {w w2 w3 : World} {f B nA g' c' : Nat} {v4 : Value} {xs ys : List Value} {o : Obj} (hc : w.cell? ⟨f, 4, none⟩ = some v4) (k2 : Kp [] w w2) (_ho : w2.ownsRow B 189 22 v4 nA xs)
    (hown : w3.ownsRow B 189 22 (.slice (some ⟨g', 0, none⟩) (nA + 1) c') (nA + 1) ys) (hg : ((w2.alloc o).drew).grownBy w3 v4.ownBlock) (hor : v4.ownBlock = some g' ∨ ((w2.alloc o).drew).heap.size ≤ g')
    (hf4 : some f ≠ v4.ownBlock) (hc3 : w3.cell? ⟨f, 4, none⟩ = some v4) :
    ∃ g c, (w3.setCell ⟨f, 4, none⟩ (.slice (some ⟨g', 0, none⟩) (nA + 1) c')).cell? ⟨f, 4, none⟩ = some (.slice (some ⟨g, 0, none⟩) (nA + 1) c) ∧
      (w3.setCell ⟨f, 4, none⟩ (.slice (some ⟨g', 0, none⟩) (nA + 1) c')).ownsRow B 189 22 (.slice (some ⟨g, 0, none⟩) (nA + 1) c) (nA + 1) ys ∧ (v4.ownBlock = some g ∨ w.heap.size ≤ g) ∧
      Hit f v4.ownBlock w (w3.setCell ⟨f, 4, none⟩ (.slice (some ⟨g', 0, none⟩) (nA + 1) c')) := by
  have hlt := World.block_lt_of_cell? _ _ hc
  have kW : Kp [] w ((w2.alloc o).drew) := k2.trans ((Kp.alloc _ _ _).trans (Kp.drew _ _))
  have hz := kW.size
  have hgf : g' ≠ f := fun e => by
    rcases hor with h | h
    · rw [h, e] at hf4; exact hf4 rfl
    · rw [e] at h; have := hlt; simp at this; omega
  refine ⟨g', c', cell_same _ hc3, ?_, hor.imp id (fun h => Nat.le_trans hz h), ?_⟩
  · exact ownsRow_setCell_far hown hgf
  · refine ⟨hg.os.trans kW.os, hg.tape.trans kW.tape, hg.output.trans kW.output, ?_, fun k hk hkf hkr => ?_, fun i hi => ?_, fun i => ?_⟩
    · have := hg.size; simp [World.setCell] at this ⊢; have := k2.size; omega
    · rw [Below.heap_setCell _ _ _ _ hkf]
      exact (hg.block k (Nat.lt_of_lt_of_le hk hz) hkr).trans (kW.block k hk (by simp))
    · rw [cell_other _ (fun h => hi (by injection h with _ h2 _; exact h2.symm))]
      exact (World.cell?_of_block (w := (w2.alloc o).drew) (hg.block f (Nat.lt_of_lt_of_le hlt hz) hf4)).trans (kW.cell hlt (by simp))
    · have h1 : (w3.setCell ⟨f, 4, none⟩ (.slice (some ⟨g', 0, none⟩) (nA + 1) c')).frozen? ⟨f, i, none⟩ = w3.frozen? ⟨f, i, none⟩ := by simp
      rw [h1]
      exact (grown_free' hg (p := ⟨f, i, none⟩) hf4 (Nat.lt_of_lt_of_le hlt hz)).trans (kW.frozen hlt (by simp))

end Go.Proofs.YtonnimbcekhbgaaGreatDoor

/- UToV. -/
namespace Go.Proofs.YtonnimbcekhbgaaGreatDoor
open Go.RowKit

theorem there_seven {w : World} {f : Nat} (h : w.there f 8 20) (v : Value) (n : Nat) : ((w.drewN n).setCell ⟨f, 7, none⟩ v).there f 8 20 := fun j hj => by
  have q := h j hj
  refine ⟨?_, ?_⟩
  · rw [cell_other _ (fun e => by injection e with _ e2 _; omega)]; exact q.1
  · have h1 : ((w.drewN n).setCell ⟨f, 7, none⟩ v).frozen? ⟨f, 8 + j, none⟩ = w.frozen? ⟨f, 8 + j, none⟩ := by simp
    rw [h1]; exact q.2
end Go.Proofs.YtonnimbcekhbgaaGreatDoor

/- Rows that lie in memory, and the finder's two lists that change places: plain facts. -/
namespace Go.Proofs.YtonnimbcekhbgaaGreatDoor
open Go.RowKit

theorem ownsRow_empty {w : World} {base size n : Nat} {e : TypeId} {g c : Nat} {xs : List Value} (h : w.ownsRow base e size (.slice (some ⟨g, 0, none⟩) n c) n xs) : w.ownsRow base e size (.slice (some ⟨g, 0, none⟩) 0 c) 0 [] := by
  refine ⟨by simp, ?_⟩
  rcases h.2 with ⟨q, _⟩ | ⟨g', cap, cur, q1, q2, q3, q4, q5, q6, _⟩
  · simp at q
  · simp at q1
    obtain ⟨rfl, rfl⟩ := q1
    exact .inr ⟨g, c, cur, rfl, q2, q3, Nat.zero_le _, q5, q6, by simp⟩

theorem own_ne_new {w : World} {base size n : Nat} {e : TypeId} {v : Value} {xs : List Value} (h : w.ownsRow base e size v n xs) : some w.heap.size ≠ v.ownBlock := by
  rcases h.2 with ⟨hv, _⟩ | ⟨g, cap, cur, hv, _, q3, _⟩
  · rw [hv]; simp [Value.ownBlock]
  · rw [hv]
    have := lt_of_block q3
    simp [Value.ownBlock]; omega

theorem Tryz.szThread : (Tryz.prog.info? 189).map (·.size) = some 22 := by kernel_rfl

/-- The lists have changed places. -/
structure Swapped (f : Nat) (v3 v4 : Value) (w w' : World) : Prop where
  c3 : w'.cell? ⟨f, 3, none⟩ = some v3
  c4 : w'.cell? ⟨f, 4, none⟩ = some v4
  cell : ∀ i, i ≠ 3 → i ≠ 4 → w'.cell? ⟨f, i, none⟩ = w.cell? ⟨f, i, none⟩
  free : ∀ i, w'.frozen? ⟨f, i, none⟩ = w.frozen? ⟨f, i, none⟩
  kept : Kp [f] w w'

theorem swapped_of {f : Nat} {v u a b : Value} {w : World} (e3 : w.cell? ⟨f, 3, none⟩ = some a) (e4 : w.cell? ⟨f, 4, none⟩ = some b) : Swapped f v u w (((w.setCell ⟨f, 3, none⟩ v).setCell ⟨f, 4, none⟩ u).drew) := by
  have n34 : (⟨f, 3, none⟩ : Addr) ≠ ⟨f, 4, none⟩ := fun e => by injection e with _ e2 _; omega
  refine ⟨?_, ?_, fun i h3 h4 => ?_, fun i => ?_, (Kp.setCell _ _ (by simp)).trans ((Kp.setCell _ _ (by simp)).trans (Kp.drew _ _))⟩
  · exact (cell_other (w := w.setCell ⟨f, 3, none⟩ v) _ (Ne.symm n34)).trans (cell_same _ e3)
  · exact cell_same (w := w.setCell ⟨f, 3, none⟩ v) _ ((cell_other _ n34).trans e4)
  · exact (cell_other (w := w.setCell ⟨f, 3, none⟩ v) _ (fun e => by injection e with _ e2 _; exact h4 e2.symm)).trans (cell_other _ (fun e => by injection e with _ e2 _; exact h3 e2.symm))
  · have h1 : (((w.setCell ⟨f, 3, none⟩ v).setCell ⟨f, 4, none⟩ u).drew).frozen? ⟨f, i, none⟩ = w.frozen? ⟨f, i, none⟩ := by simp
    exact h1

theorem owns_of_block {w w' : World} {base size n : Nat} {e : TypeId} {v : Value} {xs : List Value} (h : w.ownsRow base e size v n xs) (hb : ∀ k, v.ownBlock = some k → k < w.heap.size → w'.heap[k]? = w.heap[k]?) : w'.ownsRow base e size v n xs := by
  refine ⟨h.1, ?_⟩
  rcases h.2 with q | ⟨g, cap, cur, q1, q2, q3, q4⟩
  · exact .inl q
  · exact .inr ⟨g, cap, cur, q1, q2, (hb g (by rw [q1]; rfl) (lt_of_block q3)).trans q3, q4⟩

theorem slice_of {w : World} {base size n : Nat} {e : TypeId} {v : Value} {xs : List Value} (h : w.ownsRow base e size v n xs) : ∃ ao n c, v = .slice ao n c := by
  rcases h.2 with ⟨q, _⟩ | ⟨g, cap, cur, q1, _⟩
  · exact ⟨_, _, _, q⟩
  · exact ⟨_, _, _, q1⟩

theorem row_at {w : World} {base size n gh ch : Nat} {e : TypeId} {xs : List Value} (h : w.ownsRow base e size (.slice (some ⟨gh, 0, none⟩) n ch) n xs) : w.rangeAt gh 0 xs := fun j u hu => by
  have hj : j < n * size := by rw [← h.1]; exact (List.getElem?_eq_some_iff.1 hu).1
  rw [Nat.zero_add, h.cellAt j hj]; exact hu

theorem row_cap {w : World} {base size n gh ch : Nat} {e : TypeId} {xs : List Value} (h : w.ownsRow base e size (.slice (some ⟨gh, 0, none⟩) n ch) n xs) : n ≤ ch := by
  rcases h.2 with ⟨q, _⟩ | ⟨g, cap, cur, q1, _, _, q4, _⟩
  · cases q
  · simp at q1
    omega
end Go.Proofs.YtonnimbcekhbgaaGreatDoor
