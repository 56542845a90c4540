/- A law on append that tells where the new row lies; what a thread notes at first. -/
import Derived.Test.YtanpiomfnbiilaaDoorJ
import Derived.Deep.MidRow
import Derived.ArgAppend
namespace Go.Proofs.YtanpiomfnbiilaaDoor
open Go.RowKit

theorem run_append2 {P : Program} {w : World} {base : Nat} {t ty e : TypeId} {i : TypeInfo} {z : Value} {size bytes : Nat} (ht : P.underlying t = some (.slice e)) (hi : P.info? e = some i) (hz : i.zero = some z)
    (hsize : i.size = size) (hby : i.bytes = bytes) (hzs : z.cells.size = size) (hsz : 0 < size)
    {v : Value} {n : Nat} {xs : List Value} (hown : w.ownsRow base e size v n xs)
    {a : Addr} {m c : Nat} {news : List Value} (hl : news.length = m * size) (hnews : ∀ j u, news[j]? = some u → w.cell? (a.add j) = some u) (h1 : ∀ u ∈ news, u.oneCell' = true)
    (h63 : n + m ≤ maxLen) (hbytes : (n + m) * bytes ≤ 140737488355328) (hbase : base ≤ w.heap.size) (hm : 0 < m) :
    ∃ g cap w', (Builtin.append_ #[t, t] ty #[v, .slice (some a) m c]).run P w = .ok (.slice (some ⟨g, 0, none⟩) (n + m) cap) w' ∧ w'.ownsRow base e size (.slice (some ⟨g, 0, none⟩) (n + m) cap) (n + m) (xs ++ news) ∧ w.grownBy w' v.ownBlock ∧
      (v.ownBlock = some g ∨ w.heap.size ≤ g) := by
  rcases hown.2 with ⟨hv, hn⟩ | ⟨g, cap, cur, hv, hbg, hg, hnc, hcm, hcs, htake⟩
  · subst hv; subst hn
    have hxs : xs = [] := List.eq_nil_of_length_eq_zero (by simpa using hown.1)
    subst hxs
    obtain ⟨v', w', hrun, r1, r2, _⟩ := run_append_own (P := P) w w.heap.size t ty e i z size bytes ht hi hz hsize hby hzs hsz (.slice none 0 0) 0 [] (World.ownsRow_nil w _ e size) a m c news hl hnews h1 h63 hbytes (Nat.le_refl _)
    rcases r1.2 with ⟨_, h0⟩ | ⟨g, cap, cur, hv', hbg, _⟩
    · omega
    · subst hv'
      exact ⟨g, cap, w', hrun, ownsRow_lower r1 hbase, r2, .inr hbg⟩
  · subst hv
    by_cases hroom : n + m ≤ cap
    · obtain ⟨w', hrun, r1, r2⟩ := run_append_fits (P := P) w base t ty e i size ht hi hsize g n cap xs hown a m c news hl hnews h1 hroom
      exact ⟨g, cap, w', hrun, r1, r2, .inl rfl⟩
    · have hcell : ∀ j u, xs[j]? = some u → w.cell? ((⟨g, 0, none⟩ : Addr).add j) = some u := fun j u hu => by
        have hj : j < n * size := by rw [← hown.1]; exact (List.getElem?_eq_some_iff.1 hu).1
        rw [Addr.add_mid, Nat.zero_add, hown.cellAt j hj]; exact hu
      obtain ⟨v', w', hrun, r1, r2⟩ := run_append_arg_grows (P := P) w t ty e i z size bytes ht hi hz hsize hby hzs hsz ⟨g, 0, none⟩ n cap xs hown.1 hcell a m c news hl hnews (by omega) h63 hbytes
      rcases r1.2 with ⟨_, h0⟩ | ⟨g', cap', cur', hv', hbg', _⟩
      · omega
      · subst hv'
        exact ⟨g', cap', w', hrun, ownsRow_lower r1 hbase, ⟨r2.os, r2.tape, r2.output, r2.size, fun k hk _ => r2.block k hk (by simp)⟩, .inr hbg'⟩

/-- .. as one step of a region that draws its order. -/
theorem step_append2 {P : Program} {ops : Array Oper} {o : Oper} {a : Act} {w : World} {K : Act → World → Prop} {Q : Exit → Act → World → Prop} {E : Prop}
    (hg : o.guard = none) (s x : Operand) (t : TypeId) (hop : o.op = Op.call { callee := Callee.builtin Builtin.append, args := #[s, x], argTypes := #[t, t] })
    (base : Nat) (e : TypeId) (i : TypeInfo) (z : Value) (size bytes : Nat) (h1 : P.underlying t = some (.slice e)) (h2 : P.info? e = some i) (h3 : i.zero = some z) (h4 : i.size = size) (h5 : i.bytes = bytes) (h6 : z.cells.size = size) (h7 : 0 < size)
    (v : Value) (n : Nat) (xs : List Value) (hs : a.eval s = v) (hown : w.ownsRow base e size v n xs)
    (ad : Addr) (m c : Nat) (news : List Value) (hx : a.eval x = .slice (some ad) m c) (hn : news.length = m * size) (hc : ∀ j u, news[j]? = some u → w.cell? (ad.add j) = some u) (h1c : ∀ u ∈ news, u.oneCell' = true)
    (b1 : n + m ≤ maxLen) (b2 : (n + m) * bytes ≤ 140737488355328) (hbase : base ≤ w.heap.size) (hm : 0 < m)
    (hK : ∀ g cap w', w'.ownsRow base e size (.slice (some ⟨g, 0, none⟩) (n + m) cap) (n + m) (xs ++ news) → w.grownBy w' v.ownBlock → (v.ownBlock = some g ∨ w.heap.size ≤ g) → K (a.put o.dst (.slice (some ⟨g, 0, none⟩) (n + m) cap)) w') :
    if Region.wanted o (yielded ops a.tmps) = true then Oper.wp P o a w K Q else E := by
  have hw : Region.wanted o (yielded ops a.tmps) = true := by simp [Region.wanted, hg]
  rw [if_pos hw]
  obtain ⟨g, cap, w', hrun, r1, r2, r3⟩ := run_append2 (P := P) (ty := o.type) h1 h2 h3 h4 h5 h6 h7 hown hn hc h1c b1 b2 hbase hm (c := c)
  unfold Oper.wp
  simp [execOp, hop, resolve, invoke, builtin, hs, hx, hrun, Result.andThen]
  exact hK g cap w' r1 r2 r3

/-- What is noted at first. -/
abbrev notesV (x : Int) : List Value := [.int .i64 x, .int .i64 (-1), .int .i64 (-1), .int .i64 (-1), .int .i64 (-1), .int .i64 (-1), .int .i64 (-1), .int .i64 (-1), .int .i64 (-1), .int .i64 (-1), .int .i64 (-1), .int .i64 (-1), .int .i64 (-1), .int .i64 (-1), .int .i64 (-1), .int .i64 (-1), .int .i64 (-1), .int .i64 (-1), .int .i64 (-1), .int .i64 (-1)]

/-- The array of notes when k of them have been set. -/
def ar (k : Nat) : Array Value := (List.replicate k (Value.int .i64 (-1)) ++ List.replicate (20 - k) (Value.int .i64 0)).toArray
theorem ar_get (k : Nat) (h : k < 20) : (ar k)[k]? = some (.int .i64 0) := by
  unfold ar
  rw [List.getElem?_toArray, List.getElem?_append_right (by simp), List.getElem?_replicate, List.length_replicate, if_pos (by omega)]
theorem ar_set (k : Nat) (h : k < 20) : (ar k).setIfInBounds k (.int .i64 (-1)) = ar (k + 1) := by
  unfold ar
  rw [List.setIfInBounds_toArray]
  congr 1
  rw [List.set_append_right _ _ (by simp), List.length_replicate, Nat.sub_self, show 20 - k = (20 - (k + 1)) + 1 by omega, List.replicate_succ, List.set_cons_zero, List.replicate_succ', List.append_assoc]
  rfl

theorem results_row {P : Program} {fn : Func} {p : Tmp} {ty : TypeId} (h : fn.results = #[.cell p ty]) (tmps : Array Value) (w : World) (b o : Nat) (ht : tmps.getD p undef = .pointer (some ⟨b, o, none⟩)) (cs : List Value) (d : TypeDesc)
    (hc : w.rangeAt b o cs) (hu : P.underlying ty = some d) (hd : d.isRow = true) (hi : (P.info? ty).map (·.size) = some cs.length) : (results fn tmps).run P w = .ok (.agg cs.toArray) w := by
  have hl := run_loadVar_mid (P := P) w b o ty cs d hc hu hd hi
  have ht' : tmps[p]?.getD undef = .pointer (some ⟨b, o, none⟩) := by simpa using ht
  simp only [results, h]
  simp [ht', asAddr, hl]

theorem Kp.setCells {S : List Nat} {b : Nat} (hb : b ∈ S) : ∀ (vs : List Value) (o : Nat) (w : World), Kp S w (w.setCells b o vs)
  | [], _, _ => Kp.refl _ _
  | v :: vs, o, w => (Kp.setCell w v (p := ⟨b, o, none⟩) hb).trans (Kp.setCells hb vs (o + 1) _)

theorem Tryd.szNotes : (Tryd.prog.info? 79).map (·.size) = some 20 := by kernel_rfl

theorem range_new (W : World) (A : Array Value) (t : TypeId) : (W.alloc (.cells A t)).rangeAt W.heap.size 0 A.toList := by
  intro j v h
  rw [Nat.zero_add]
  simpa using h

set_option maxRecDepth 100000 in
set_option maxHeartbeats 1000000 in
theorem noted_any (x : Int) (w : World) :
    Calls Tryd.prog 30 #[.int .i64 x] w fun e w' => e = .returned (.agg (notesV x).toArray) ∧ Kp [] w w' := by
  obtain ⟨Z, hZ⟩ : ∃ Z : Obj, Z = .cells #[.int .i64 0, .int .i64 0, .int .i64 0, .int .i64 0, .int .i64 0, .int .i64 0, .int .i64 0, .int .i64 0, .int .i64 0, .int .i64 0, .int .i64 0, .int .i64 0, .int .i64 0, .int .i64 0, .int .i64 0, .int .i64 0, .int .i64 0, .int .i64 0, .int .i64 0, .int .i64 0] 79 := ⟨_, rfl⟩
  have hZ0 : Z = .cells (ar 0) 79 := hZ
  go_enter Tryd.func30, Tryd.ntmps30
  go_wp2
  rw [← hZ]
  go_loopw [5] (fun v wr => ∃ k : Nat, k ≤ 20 ∧ v = .int .i64 k ∧ wr = (w.alloc Z).alloc (.cells (ar k) 79)) (fun v _ => 20 - (intOf v).toNat)
  case atStart => exact ⟨0, by omega, rfl, by rw [← hZ0]⟩
  case round =>
    obtain ⟨k, hk, rfl, rfl⟩ := hrel
    by_cases hlt : k < 20
    · have hg := ar_get k hlt
      have hs := ar_set k hlt
      clear hZ hZ0
      go_wp2
      go_roundw
      case rel => exact ⟨k + 1, by omega, by go_num, rfl⟩
      case measure => simp [intOf]; omega
    · have e : k = 20 := by omega
      subst e
      obtain ⟨A0, hA0⟩ : ∃ A0, A0 = ar 20 := ⟨_, rfl⟩
      have hg : A0[0]? = some (.int .i64 (-1)) := by rw [hA0]; rfl
      obtain ⟨A1, hA1⟩ : ∃ A1, A1 = A0.setIfInBounds 0 (.int .i64 x) := ⟨_, rfl⟩
      have hA2 : A1 = (notesV x).toArray := by rw [hA1, hA0]; rfl
      have hsz : A1.size = 20 := by rw [hA2]; rfl
      have hset : A0.setIfInBounds 0 (.int .i64 x) = A1 := hA1.symm
      obtain ⟨W, hW⟩ : ∃ W : World, W = (w.alloc Z).alloc (.cells A1 79) := ⟨_, rfl⟩
      have hth : ((w.alloc Z).alloc (.cells A1 79)).there w.heap.size 0 20 := by
        intro j hj
        rw [Nat.zero_add, hZ0]
        have e1 : ((w.alloc (.cells (ar 0) 79)).alloc (.cells A1 79)).cell? ⟨w.heap.size, j, none⟩ = (w.alloc (.cells (ar 0) 79)).cell? ⟨w.heap.size, j, none⟩ := (Kp.alloc [] _ _).cell (by simp) (by simp)
        have e2 := range_new w (ar 0) 79 j (.int .i64 0) (by show (List.replicate 20 (Value.int .i64 0))[j]? = _; rw [List.getElem?_replicate, if_pos hj])
        rw [Nat.zero_add] at e2
        exact ⟨by rw [e1, e2]; rfl, by simp [go_sem]⟩
      have HT := hid hth
      have H2 := hid hA2
      have HS := hid hsz
      clear hth hA2 hsz hA1 hZ hZ0 hW W
      rw [← hA0]
      clear hA0
      go_wp2_with (first | (refine wpList_load_mid rfl 79 (.tmp 3) rfl (w.heap.size + 1) 0 rfl A1.toList _ (by have := range_new (w.alloc Z) A1 79; simpa using this) Tryd.underlying79 rfl (by rw [Tryd.szNotes]; simp [HS.out]) ?_) | (refine wpList_store_mid rfl 79 (.tmp 2) (.tmp 13) rfl w.heap.size 0 A1 rfl rfl (by rw [HS.out]; exact HT.out) (by rw [Tryd.szNotes, HS.out]) (by rw [H2.out]; simp [notesV, Value.oneCell']) ?_))
      have hr := World.rangeAt_setCells_same ((w.alloc Z).alloc (.cells A1 79)) w.heap.size 0 A1.toList (by simp only [Array.length_toList, HS.out]; exact HT.out)
      refine bodyPost_ret (results_row (p := 2) (ty := 79) (by rw [Tryd.results30]) _ _ w.heap.size 0 rfl A1.toList _ hr Tryd.underlying79 rfl (by rw [Tryd.szNotes]; simp [HS.out])) rfl ⟨?_, ?_⟩
      · rw [H2.out]
      · exact Kp.own (x := w.heap.size) ((Kp.alloc _ _ _).trans ((Kp.alloc _ _ _).trans (Kp.setCells (by simp) _ _ _))) (Nat.le_refl _)
end Go.Proofs.YtanpiomfnbiilaaDoor
