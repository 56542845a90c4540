/- What the claim needs of: EFToEG. -/
import Derived.Test.YtonnimbcekhbgaaGreatDoorX02
import Derived.Deep.MidRow
import Derived.ArgAppend
import Derived.Laws.OwnMore

/- EFToEG. -/
namespace Go.Proofs.YtonnimbcekhbgaaGreatDoor
open Go.RowKit

theorem lt_blk {w : World} {g : Nat} {o : Obj} (h : w.heap[g]? = some o) : g < w.heap.size := (Array.getElem?_eq_some_iff.1 h).1
theorem own_lower {w : World} {base B size n : Nat} {e : TypeId} {v : Value} {xs : List Value} (h : w.ownsRow base e size v n xs) (hB : B ≤ base) : w.ownsRow B e size v n xs := by
  refine ⟨h.1, ?_⟩
  rcases h.2 with q | ⟨g, cap, cur, q1, q2, q3⟩
  · exact .inl q
  · exact .inr ⟨g, cap, cur, q1, Nat.le_trans hB q2, q3⟩
theorem own_block {w w' : World} {base size n : Nat} {e : TypeId} {v : Value} {xs : List Value} (h : w.ownsRow base e size v n xs) (hb : ∀ k, v.ownBlock = some k → w'.heap[k]? = w.heap[k]?) : w'.ownsRow base e size v n xs := by
  refine ⟨h.1, ?_⟩
  rcases h.2 with q | ⟨g, cap, cur, q1, q2, q3, q4⟩
  · exact .inl q
  · exact .inr ⟨g, cap, cur, q1, q2, (hb g (by rw [q1]; rfl)).trans q3, q4⟩
theorem own_lt {w : World} {base size n : Nat} {e : TypeId} {v : Value} {xs : List Value} {g : Nat} (h : w.ownsRow base e size v n xs) (hg : v.ownBlock = some g) : base ≤ g ∧ g < w.heap.size := by
  rcases h.2 with ⟨q, _⟩ | ⟨g', cap, cur, q1, q2, q3, _⟩
  · rw [q] at hg; cases hg
  · rw [q1] at hg
    injection hg with hg
    subst hg
    exact ⟨q2, lt_blk q3⟩
theorem own_form {w : World} {base size n : Nat} {e : TypeId} {v : Value} {xs : List Value} (h : w.ownsRow base e size v n xs) : ∃ A c, v = .slice A n c ∧ (A = none → n = 0) ∧ ∀ ad, A = some ad → ∃ g, ad = ⟨g, 0, none⟩ := by
  rcases h.2 with ⟨q, q2⟩ | ⟨g, cap, cur, q1, _⟩
  · refine ⟨none, 0, by rw [q, q2], fun _ => q2, fun _ h => ?_⟩
    cases h
  · refine ⟨some ⟨g, 0, none⟩, cap, q1, fun h => ?_, fun ad h => ⟨g, ?_⟩⟩
    · cases h
    · injection h with h; exact h.symm

/-- A law on append that tells where the new row lies. -/
theorem run_app {P : Program} {w : World} {base : Nat} {t ty e : TypeId} {i : TypeInfo} {z : Value} {size bytes : Nat} (ht : P.underlying t = some (.slice e)) (hi : P.info? e = some i) (hz : i.zero = some z)
    (hsize : i.size = size) (hby : i.bytes = bytes) (hzs : z.cells.size = size) (hsz : 0 < size)
    {v : Value} {n : Nat} {xs : List Value} (hown : w.ownsRow base e size v n xs)
    {a : Addr} {m c : Nat} {news : List Value} (hl : news.length = m * size) (hnews : ∀ j u, news[j]? = some u → w.cell? (a.add j) = some u) (h1 : ∀ u ∈ news, u.oneCell' = true)
    (h63 : n + m ≤ maxLen) (hbytes : (n + m) * bytes ≤ 140737488355328) (hbase : base ≤ w.heap.size) (hm : 0 < m) :
    ∃ g cap w', (Builtin.append_ #[t, t] ty #[v, .slice (some a) m c]).run P w = .ok (.slice (some ⟨g, 0, none⟩) (n + m) cap) w' ∧ w'.ownsRow base e size (.slice (some ⟨g, 0, none⟩) (n + m) cap) (n + m) (xs ++ news) ∧ w.grownBy w' v.ownBlock ∧
      (v.ownBlock = some g ∨ w.heap.size ≤ g) := by
  rcases hown.2 with ⟨hv, hn⟩ | ⟨g, cap, cur, hv, hbg, hg, hnc, hcm, hcs, htake⟩
  · subst hv; subst hn
    have hxs : xs = [] := List.eq_nil_of_length_eq_zero (by simpa using hown.1)
    subst hxs
    obtain ⟨v', w', hrun, r1, r2, _⟩ := run_append_own (P := P) w w.heap.size t ty e i z size bytes ht hi hz hsize hby hzs hsz (.slice none 0 0) 0 [] (World.ownsRow_nil w _ e size) a m c news hl hnews h1 h63 hbytes (Nat.le_refl _)
    rcases r1.2 with ⟨_, h0⟩ | ⟨g, cap, cur, hv', hbg, _⟩
    · omega
    · subst hv'
      exact ⟨g, cap, w', hrun, own_lower r1 hbase, r2, .inr hbg⟩
  · subst hv
    by_cases hroom : n + m ≤ cap
    · obtain ⟨w', hrun, r1, r2⟩ := run_append_fits (P := P) w base t ty e i size ht hi hsize g n cap xs hown a m c news hl hnews h1 hroom
      exact ⟨g, cap, w', hrun, r1, r2, .inl rfl⟩
    · have hcell : ∀ j u, xs[j]? = some u → w.cell? ((⟨g, 0, none⟩ : Addr).add j) = some u := fun j u hu => by
        have hj : j < n * size := by rw [← hown.1]; exact (List.getElem?_eq_some_iff.1 hu).1
        rw [Addr.add_mid, Nat.zero_add, hown.cellAt j hj]; exact hu
      obtain ⟨v', w', hrun, r1, r2⟩ := run_append_arg_grows (P := P) w t ty e i z size bytes ht hi hz hsize hby hzs hsz ⟨g, 0, none⟩ n cap xs hown.1 hcell a m c news hl hnews (by omega) h63 hbytes
      rcases r1.2 with ⟨_, h0⟩ | ⟨g', cap', cur', hv', hbg', _⟩
      · omega
      · subst hv'
        exact ⟨g', cap', w', hrun, own_lower r1 hbase, ⟨r2.os, r2.tape, r2.output, r2.size, fun k hk _ => r2.block k hk (by simp)⟩, .inr hbg'⟩

theorem wpList_app {P : Program} {ops : Array Oper} {rest : List Oper} {o : Oper} {a : Act} {w : World} {Q : Exit → Act → World → Prop} (hgd : o.guard = none) (s x : Operand) (t : TypeId) (hop : o.op = Op.call { callee := Callee.builtin Builtin.append, args := #[s, x], argTypes := #[t, t] })
    (base : Nat) (e : TypeId) (i : TypeInfo) (z : Value) (size bytes : Nat) (h1 : P.underlying t = some (.slice e)) (h2 : P.info? e = some i) (h3 : i.zero = some z) (h4 : i.size = size) (h5 : i.bytes = bytes) (h6 : z.cells.size = size) (h7 : 0 < size)
    (v : Value) (n : Nat) (xs : List Value) (hs : a.eval s = v) (hown : w.ownsRow base e size v n xs)
    (ad : Addr) (m c : Nat) (news : List Value) (hx : a.eval x = .slice (some ad) m c) (hn : news.length = m * size) (hc : ∀ j u, news[j]? = some u → w.cell? (ad.add j) = some u) (h1c : ∀ u ∈ news, u.oneCell' = true)
    (b1 : n + m ≤ maxLen) (b2 : (n + m) * bytes ≤ 140737488355328) (hbase : base ≤ w.heap.size) (hm : 0 < m)
    (h : ∀ g cap w', w'.ownsRow base e size (.slice (some ⟨g, 0, none⟩) (n + m) cap) (n + m) (xs ++ news) → w.grownBy w' v.ownBlock → (v.ownBlock = some g ∨ w.heap.size ≤ g) → wpList P ops Q rest (a.put o.dst (.slice (some ⟨g, 0, none⟩) (n + m) cap)) w') : wpList P ops Q (o :: rest) a w :=
  wpList_plain hgd fun _ hK => by
    obtain ⟨g, cap, w', hrun, r1, r2, r3⟩ := run_app (P := P) (ty := o.type) h1 h2 h3 h4 h5 h6 h7 hown hn hc h1c b1 b2 hbase hm (c := c)
    unfold Oper.wp
    simp [execOp, hop, resolve, invoke, builtin, hs, hx, hrun, Result.andThen]
    exact hK _ _ (h g cap w' r1 r2 r3)

/-- Blocks that are apart, by their kinds. -/
abbrev Bk := Nat → Option Nat
structure Bk.ok (lo hi : Nat) (f : Bk) : Prop where
  lo : ∀ i p, f i = some p → lo ≤ p
  hi : ∀ i p, f i = some p → p < hi
  ne : ∀ i j p, f i = some p → f j = some p → i = j
theorem Bk.ok.upd {lo hi hi' : Nat} {f : Bk} (h : Bk.ok lo hi f) (i g : Nat) (hh : hi ≤ hi') (hl : lo ≤ hi) (hg : f i = some g ∨ (hi ≤ g ∧ g < hi')) : Bk.ok lo hi' (fun j => if j = i then some g else f j) := by
  have hg1 : lo ≤ g ∧ g < hi' := by
    rcases hg with q | q
    · exact ⟨h.lo i g q, Nat.lt_of_lt_of_le (h.hi i g q) hh⟩
    · exact ⟨Nat.le_trans hl q.1, q.2⟩
  have hne : ∀ j, j ≠ i → f j ≠ some g := fun j hj e => by
    rcases hg with q | q
    · exact hj (h.ne j i g e q)
    · have := h.hi j g e; omega
  refine ⟨fun j p hp => ?_, fun j p hp => ?_, fun j k p hj hk => ?_⟩
  · split at hp
    · injection hp with e; omega
    · exact h.lo j p hp
  · split at hp
    · injection hp with e; omega
    · exact Nat.lt_of_lt_of_le (h.hi j p hp) hh
  · split at hj <;> split at hk
    · omega
    · injection hj with e
      exact absurd (e ▸ hk) (hne k (by assumption))
    · injection hk with e
      exact absurd (e ▸ hj) (hne j (by assumption))
    · exact h.ne j k p hj hk
theorem Bk.ok.grow {lo hi hi' : Nat} {f : Bk} (h : Bk.ok lo hi f) (hh : hi ≤ hi') : Bk.ok lo hi' f := ⟨h.lo, fun i p hp => Nat.lt_of_lt_of_le (h.hi i p hp) hh, h.ne⟩

/-- A table from words to numbers. -/
def strE : Nat → List (ByteArray × Nat) → List MapEntry
  | _, [] => []
  | c, (x, n) :: l => ⟨.string x, .int .i64 n, c⟩ :: strE (c + 1) l
def strO (l : List (ByteArray × Nat)) : Obj := .map (strE 0 l).toArray l.length

/-- What the reader has read. -/
structure Sst where
  quiet : Bool
  vc : Value
  cs : List (List Value)
  vn : Value
  ns : List ByteArray
  ranges : Nat
  ob : Nat
  lb : Nat
  nb : Nat
  vb : Value
  bs : List Nat
  vg : Value
  gs : List (Nat × Nat)
  ls : List (ByteArray × Nat)
  nm : List (ByteArray × Nat)
  fs : List (Nat × Obj)

/-- Not too much is read. -/
structure Small (σ : Sst) (n : Nat) : Prop where
  ns : σ.ns.length ≤ n
  bs : σ.bs.length ≤ n
  gs : σ.gs.length ≤ n
theorem Small.mono {σ : Sst} {n m : Nat} (h : Small σ n) (hm : n ≤ m) : Small σ m := ⟨Nat.le_trans h.ns hm, Nat.le_trans h.bs hm, Nat.le_trans h.gs hm⟩

def srB (b : Nat) (σ : Sst) : Bk
  | 0 => some b
  | 1 => some σ.ob
  | 2 => some σ.lb
  | 3 => some σ.nb
  | 4 => σ.vc.ownBlock
  | 5 => σ.vn.ownBlock
  | 6 => σ.vb.ownBlock
  | 7 => σ.vg.ownBlock
  | _ => none

structure SrC (w : World) (b : Nat) (σ : Sst) : Prop where
  c2 : w.cell? ⟨b, 2, none⟩ = some (.int .i64 4)
  c3 : w.cell? ⟨b, 3, none⟩ = some (.bool σ.quiet)
  c4 : w.cell? ⟨b, 4, none⟩ = some σ.vc
  c5 : w.cell? ⟨b, 5, none⟩ = some σ.vn
  c6 : w.cell? ⟨b, 6, none⟩ = some (.int .i64 σ.ranges)
  c7 : w.cell? ⟨b, 7, none⟩ = some (.map (some σ.ob))
  c8 : w.cell? ⟨b, 8, none⟩ = some σ.vb
  c9 : w.cell? ⟨b, 9, none⟩ = some (.map (some σ.lb))
  c10 : w.cell? ⟨b, 10, none⟩ = some (.map (some σ.nb))
  c11 : w.cell? ⟨b, 11, none⟩ = some σ.vg

structure SrR (w0 w : World) (b : Nat) (σ : Sst) : Prop where
  kp : Kp [] w0 w
  o4 : w.ownsRow w0.heap.size 100 23 σ.vc σ.cs.length σ.cs.flatten
  o5 : w.ownsRow w0.heap.size 9 1 σ.vn σ.ns.length (σ.ns.map .string)
  o8 : w.ownsRow w0.heap.size 3 1 σ.vb σ.bs.length (σ.bs.map fun n : Nat => Value.int .i64 (n : Int))
  o11 : w.ownsRow w0.heap.size 106 2 σ.vg σ.gs.length (σ.gs.flatMap fun p : Nat × Nat => [Value.int .i64 (p.1 : Int), .int .i64 (p.2 : Int)])
  m7 : w.heap[σ.ob]? = some (tabO opsL)
  m9 : w.heap[σ.lb]? = some (strO σ.ls)
  m10 : w.heap[σ.nb]? = some (strO σ.nm)
  len : ∀ c ∈ σ.cs, c.length = 23 ∧ ∀ u ∈ c, u.oneCell' = true
  bk : Bk.ok w0.heap.size w.heap.size (srB b σ)
  fx : ∀ f ∈ σ.fs, w.heap[f.1]? = some f.2 ∧ w0.heap.size ≤ f.1 ∧ ∀ i, srB b σ i ≠ some f.1

section
variable {w0 w w' : World} {b : Nat} {σ : Sst}

theorem SrC.keep (h : SrC w b σ) (hc : ∀ j, 2 ≤ j → w'.cell? ⟨b, j, none⟩ = w.cell? ⟨b, j, none⟩) : SrC w' b σ :=
  ⟨(hc _ (by omega)).trans h.c2, (hc _ (by omega)).trans h.c3, (hc _ (by omega)).trans h.c4, (hc _ (by omega)).trans h.c5, (hc _ (by omega)).trans h.c6, (hc _ (by omega)).trans h.c7, (hc _ (by omega)).trans h.c8, (hc _ (by omega)).trans h.c9, (hc _ (by omega)).trans h.c10, (hc _ (by omega)).trans h.c11⟩

theorem SrR.keep {S : List Nat} (h : SrR w0 w b σ) (k : Kp S w w') (hS : ∀ x ∈ S, w0.heap.size ≤ x ∧ (∀ i, 0 < i → srB b σ i ≠ some x) ∧ ∀ f ∈ σ.fs, f.1 ≠ x) : SrR w0 w' b σ := by
  have hh : ∀ i p, 0 < i → srB b σ i = some p → w'.heap[p]? = w.heap[p]? := fun i p hi hp => k.block p (h.bk.hi i p hp) (fun e => (hS p e).2.1 i hi hp)
  refine ⟨⟨k.os.trans h.kp.os, k.tape.trans h.kp.tape, k.output.trans h.kp.output, Nat.le_trans h.kp.size k.size, fun j hj _ => (k.block j (Nat.lt_of_lt_of_le hj h.kp.size) (fun e => by have := (hS j e).1; omega)).trans (h.kp.block j hj (by simp))⟩, own_block h.o4 (fun p hp => hh 4 p (by omega) hp), own_block h.o5 (fun p hp => hh 5 p (by omega) hp), own_block h.o8 (fun p hp => hh 6 p (by omega) hp), own_block h.o11 (fun p hp => hh 7 p (by omega) hp), (hh 1 _ (by omega) rfl).trans h.m7, (hh 2 _ (by omega) rfl).trans h.m9, (hh 3 _ (by omega) rfl).trans h.m10, h.len, h.bk.grow k.size, fun f hf => ?_⟩
  obtain ⟨h1, h2, h3⟩ := h.fx f hf
  exact ⟨(k.block f.1 (lt_blk h1) (fun e => (hS f.1 e).2.2 f hf rfl)).trans h1, h2, h3⟩

/-- The reader at place k of its source. -/
structure Sr (w0 w : World) (b : Nat) (src : ByteArray) (k : Nat) (σ : Sst) : Prop where
  cur : Cur w b src k
  c : SrC w b σ
  r : SrR w0 w b σ

variable {src : ByteArray} {k k' : Nat}
theorem Sr.move (h : Sr w0 w b src k σ) (m : Mv b w w') (hc : Cur w' b src k') : Sr w0 w' b src k' σ :=
  ⟨hc, h.c.keep (fun j hj => m.same j (by omega)), h.r.keep m.kp (fun x hx => by
    simp at hx
    subst hx
    exact ⟨h.r.bk.lo 0 x rfl, fun i hi e => by have := h.r.bk.ne i 0 x e rfl; omega, fun f hf e => (h.r.fx f hf).2.2 0 (by rw [e]; rfl)⟩)⟩
/-- A block of another's. -/
structure Sr.Far (w0 : World) (b : Nat) (σ : Sst) (x : Nat) : Prop where
  lo : w0.heap.size ≤ x
  bk : ∀ i, srB b σ i ≠ some x
  fx : ∀ f ∈ σ.fs, f.1 ≠ x
theorem Sr.other {S : List Nat} (h : Sr w0 w b src k σ) (q : Kp S w w') (hS : ∀ x ∈ S, Sr.Far w0 b σ x) : Sr w0 w' b src k σ := by
  have hb : b ∉ S := fun e => (hS b e).bk 0 rfl
  exact ⟨h.cur.keep q hb, h.c.keep (fun j _ => q.cell (p := ⟨b, j, none⟩) h.cur.lt hb), h.r.keep q (fun x hx => ⟨(hS x hx).lo, fun i _ => (hS x hx).bk i, (hS x hx).fx⟩)⟩
theorem Sr.keep (h : Sr w0 w b src k σ) (q : Kp [] w w') : Sr w0 w' b src k σ := h.other q (fun _ e => by cases e)
theorem Sr.far_new (h : Sr w0 w b src k σ) {x : Nat} (hx : w.heap.size ≤ x) : Sr.Far w0 b σ x :=
  ⟨Nat.le_trans h.r.kp.size hx, fun i e => by have := h.r.bk.hi i x e; omega, fun f hf e => by have := lt_blk (h.r.fx f hf).1; omega⟩
end
end Go.Proofs.YtonnimbcekhbgaaGreatDoor

/- The script's reader: an address. -/
namespace Go.Proofs.YtonnimbcekhbgaaGreatDoor
open Go.RowKit

theorem res_row {P : Program} {fn : Func} {p : Tmp} {ty : TypeId} (h : fn.results = #[.cell p ty]) (tmps : Array Value) (w : World) (b o : Nat) (ht : tmps.getD p undef = .pointer (some ⟨b, o, none⟩)) (cs : List Value) (d : TypeDesc)
    (hc : w.rangeAt b o cs) (hu : P.underlying ty = some d) (hd : d.isRow = true) (hi : (P.info? ty).map (·.size) = some cs.length) : (results fn tmps).run P w = .ok (.agg cs.toArray) w := by
  have hl := run_loadVar_mid (P := P) w b o ty cs d hc hu hd hi
  have ht' : tmps[p]?.getD undef = .pointer (some ⟨b, o, none⟩) := by simpa using ht
  simp only [results, h]
  simp [ht', asAddr, hl]
theorem Tryz.szAddress : (Tryz.prog.info? 120).map (·.size) = some 4 := by kernel_rfl

theorem kp_setCells {S : List Nat} {b : Nat} (hb : b ∈ S) : ∀ (vs : List Value) (o : Nat) (w : World), Kp S w (w.setCells b o vs)
  | [], _, _ => Kp.refl _ _
  | v :: vs, o, w => (Kp.setCell w v (p := ⟨b, o, none⟩) hb).trans (kp_setCells hb vs (o + 1) _)

/-- A block that holds these cells. -/
structure Bl (w : World) (b : Nat) (cv : List Value) : Prop where
  lt : b < w.heap.size
  at_ : ∀ j u, cv[j]? = some u → w.cell? ⟨b, j, none⟩ = some u
  free : ∀ j, w.frozen? ⟨b, j, none⟩ = false
theorem Bl.keep {S : List Nat} {w w' : World} {b : Nat} {cv : List Value} (h : Bl w b cv) (k : Kp S w w') (hb : b ∉ S) : Bl w' b cv :=
  ⟨Nat.lt_of_lt_of_le h.lt k.size, fun j u hu => (k.cell (p := ⟨b, j, none⟩) h.lt hb).trans (h.at_ j u hu), fun j => (k.frozen (p := ⟨b, j, none⟩) h.lt hb).trans (h.free j)⟩
theorem Bl.alloc (w : World) (cv : List Value) (T : TypeId) : Bl (w.alloc (.cells cv.toArray T)) w.heap.size cv := by
  have hh : (w.alloc (.cells cv.toArray T)).heap[w.heap.size]? = some (.cells cv.toArray T) := by show (w.heap.push _)[w.heap.size]? = _; simp
  refine ⟨by simp, fun j u hu => ?_, fun j => ?_⟩
  · simp only [World.cell?, hh]; simpa using hu
  · simp only [World.frozen?, hh]; simp
theorem Bl.put {w : World} {b : Nat} {cv vs : List Value} (h : Bl w b cv) (hl : vs.length = cv.length) : Bl (w.setCells b 0 vs) b vs := by
  refine ⟨Nat.lt_of_lt_of_le h.lt (kp_setCells (S := [b]) (by simp) vs 0 w).size, fun j u hu => ?_, fun j => by rw [World.frozen?_setCells]; exact h.free j⟩
  have hj : j < vs.length := (List.getElem?_eq_some_iff.1 hu).1
  have := World.cell?_setCells_in b vs 0 w (fun i hi => by
    have hi' : i < cv.length := by omega
    have := h.at_ i cv[i] (List.getElem?_eq_getElem hi')
    rw [Nat.zero_add, this]; rfl) j hj
  rw [Nat.zero_add] at this
  rw [this, ← hu, List.getElem?_eq_getElem hj]
theorem Bl.set {w : World} {b : Nat} {cv : List Value} (h : Bl w b cv) (j : Nat) (v : Value) (hj : j < cv.length) : Bl (w.setCell ⟨b, j, none⟩ v) b (cv.set j v) := by
  refine ⟨by simpa [World.setCell] using h.lt, fun i u hu => ?_, fun i => by simpa using h.free i⟩
  by_cases e : i = j
  · subst e
    rw [List.getElem?_set_self hj] at hu
    rw [cell_same _ (h.at_ i cv[i] (List.getElem?_eq_getElem hj)), hu]
  · rw [List.getElem?_set_ne (Ne.symm e)] at hu
    rw [cell_other _ (fun q => by injection q with _ q2 _; exact e q2.symm)]
    exact h.at_ i u hu
theorem Bl.range {w : World} {b : Nat} {cv : List Value} (h : Bl w b cv) : w.rangeAt b 0 cv := fun j u hu => by rw [Nat.zero_add]; exact h.at_ j u hu

section
variable {w w' : World} {b k : Nat} {src : ByteArray}
theorem Mv.alloc (hb : b < w.heap.size) (o : Obj) : Mv b w (w.alloc o) := ⟨Kp.alloc _ _ _, fun j _ => (Kp.alloc [] w o).cell (p := ⟨b, j, none⟩) hb (by simp)⟩
/-- A new variable's block is written. -/
theorem Mv.fresh {u : World} {x : Nat} (m : Mv b w w') (q : Kp [x] w' u) (hx : w.heap.size ≤ x) (hb : b < w.heap.size) : Mv b w u :=
  ⟨((m.kp.mono (T := [x, b]) (by simp)).trans (q.mono (by simp))).own hx, fun j hj => (q.cell (p := ⟨b, j, none⟩) (Nat.lt_of_lt_of_le hb m.kp.size) (by simp; omega)).trans (m.same j hj)⟩

abbrev adrV (kd x : Nat) : List Value := [.int .i64 kd, .int .i64 x, .pointer none, .string ⟨#[]⟩]

set_option maxHeartbeats 1000000 in
theorem address_num {n x e : Nat} (hr : Cur w b src k) (hd : isD src k = true) (h : numN src 1 1000000 k n 0 k = some (x, e)) :
    Calls Tryz.prog 136 #[.pointer (some ⟨b, 0, none⟩)] w fun r w' => r = .returned (.agg (adrV 0 x).toArray) ∧ Cur w' b src e ∧ Mv b w w' := by
  have H := hid h
  clear h
  have hA := hr.keep (Kp.alloc [] w (.cells (adrV 0 0).toArray 120)) (by simp)
  have hlt := hr.lt
  have mA : Mv b w (w.alloc (.cells (adrV 0 0).toArray 120)) := Mv.alloc hlt _
  have B0 := hid (Bl.alloc w (adrV 0 0) 120)
  go_enter Tryz.func136, Tryz.ntmps136
  go_wp2_with fail
  refine (digit_c hA hd).mono ?_
  rintro r w1 ⟨rfl, h1, m1⟩
  go_wp2_with fail
  refine (number_v (lo := 1) (hi := 1000000) h1 (by omega) H.out).mono ?_
  rintro r w2 ⟨rfl, h2, m2⟩
  have m12 := m1.trans m2
  have B2 := B0.out.keep m12.kp (by simp; omega)
  have e0 := B2.at_ 0 _ rfl
  have e1 := B2.at_ 1 _ rfl
  have e2 := B2.at_ 2 _ rfl
  have e3 := B2.at_ 3 _ rfl
  have f0 := B2.free 0
  have f1 := B2.free 1
  have f2 := B2.free 2
  have f3 := B2.free 3
  go_wp2_with fail
  have B3 : Bl (w2.setCells w.heap.size 0 (adrV 0 x)) w.heap.size (adrV 0 x) := B2.put rfl
  have k3 : Kp [w.heap.size] w2 (w2.setCells w.heap.size 0 (adrV 0 x)) := kp_setCells (by simp) _ _ _
  refine bodyPost_ret (res_row (p := 2) (ty := 120) (by rw [Tryz.results136]) _ _ w.heap.size 0 rfl _ _ B3.range Tryz.underlying120 rfl (by rw [Tryz.szAddress]; rfl)) rfl ⟨rfl, h2.keep k3 (by simp; omega), (mA.trans m12).fresh k3 (Nat.le_refl _) hlt⟩

set_option maxHeartbeats 1000000 in
theorem address_last (hr : Cur w b src k) (hd : isD src k = false) (h : saw src k 36 = true) :
    Calls Tryz.prog 136 #[.pointer (some ⟨b, 0, none⟩)] w fun r w' => r = .returned (.agg (adrV 1 0).toArray) ∧ Cur w' b src (k + 1) ∧ Mv b w w' := by
  have hA := hr.keep (Kp.alloc [] w (.cells (adrV 0 0).toArray 120)) (by simp)
  have hlt := hr.lt
  have mA : Mv b w (w.alloc (.cells (adrV 0 0).toArray 120)) := Mv.alloc hlt _
  have B0 := hid (Bl.alloc w (adrV 0 0) 120)
  go_enter Tryz.func136, Tryz.ntmps136
  go_wp2_with fail
  refine (digit_c hA hd).mono ?_
  rintro r w1 ⟨rfl, h1, m1⟩
  go_wp2_with fail
  refine (take_v 36 h1 h).mono ?_
  rintro r w2 ⟨rfl, h2, m2⟩
  have m12 := m1.trans m2
  have B2 := B0.out.keep m12.kp (by simp; omega)
  have e0 := B2.at_ 0 _ rfl
  have e1 := B2.at_ 1 _ rfl
  have e2 := B2.at_ 2 _ rfl
  have e3 := B2.at_ 3 _ rfl
  have f0 := B2.free 0
  have f1 := B2.free 1
  have f2 := B2.free 2
  have f3 := B2.free 3
  go_wp2_with fail
  have B3 : Bl (w2.setCells w.heap.size 0 (adrV 1 0)) w.heap.size (adrV 1 0) := B2.put rfl
  have k3 : Kp [w.heap.size] w2 (w2.setCells w.heap.size 0 (adrV 1 0)) := kp_setCells (by simp) _ _ _
  refine bodyPost_ret (res_row (p := 2) (ty := 120) (by rw [Tryz.results136]) _ _ w.heap.size 0 rfl _ _ B3.range Tryz.underlying120 rfl (by rw [Tryz.szAddress]; rfl)) rfl ⟨rfl, h2.keep k3 (by simp; omega), (mA.trans m12).fresh k3 (Nat.le_refl _) hlt⟩
end
end Go.Proofs.YtonnimbcekhbgaaGreatDoor
