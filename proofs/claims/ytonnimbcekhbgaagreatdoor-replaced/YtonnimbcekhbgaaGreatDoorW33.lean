/- What the claim needs of: KL KM. -/
import Derived.Test.YtonnimbcekhbgaaGreatDoorW12
import Derived.Test.YtonnimbcekhbgaaGreatDoorW13
import Derived.Test.YtonnimbcekhbgaaGreatDoorW32
import Derived.Test.YtonnimbcekhbgaaGreatDoorW21
import Derived.Test.YtonnimbcekhbgaaGreatDoorW23
import Derived.Test.YtonnimbcekhbgaaGreatDoorW03
import Derived.Test.YtonnimbcekhbgaaGreatDoorW28

/- KL. -/
namespace Go.Proofs.YtonnimbcekhbgaaGreatDoor
open Go.RowKit

section
variable {cd : Nat → In} {n D bg fr pl : Nat} {text : ByteArray} {t u v : Thr} {s s' s1 : Mc}

theorem runs_nil (hc : Cok cd n D bg) : ∀ (k pl : Nat) (here : List Thr) (s s' : Mc), Runs cd n D text bg k pl here s s' → k + pl = text.size + 1 → fr ≤ pl → (∀ t ∈ here, Way cd text bg fr pl t) → s.left = [] → s.ahead = [] → Vd cd text bg fr s → s'.left = [] ∧ s'.ahead = []
  | 0, pl, here, s, s', h, _, _, _, hl, ha, _ => by rw [show s' = s from h]; exact ⟨hl, ha⟩
  | k + 1, pl, here, s, s', h, hk, hf, hh, hl, ha, hv => by
    rcases h with ⟨_, rfl⟩ | ⟨_, s1, sw, rn⟩
    · exact ⟨hl, ha⟩
    · obtain ⟨a1, a2, a3⟩ := sweep_sound (fr := fr) hc _ s s1 sw (fun z hz => by
        split at hz
        · exact hh z hz
        · rcases List.mem_append.1 hz with e | e
          · exact hh z e
          · rw [List.mem_singleton.1 e]; exact .start pl hf (by omega)) hl (by rw [ha]; intro z hz; cases hz) hv
      exact runs_nil hc k (pl + 1) s1.ahead { s1 with ahead := [] } s' rn (by omega) (by omega) a1 a3 rfl a2

/-- The next place of something from a place on. -/
def nextO (q : Nat → Bool) (N fr : Nat) : Option Nat := (List.range N).find? fun a => decide (fr ≤ a) && q a
theorem nextO_some {q : Nat → Bool} {N fr a : Nat} (h : nextO q N fr = some a) : fr ≤ a ∧ a < N ∧ q a = true ∧ ∀ b, fr ≤ b → b < a → q b = false := by
  unfold nextO at h
  rw [List.find?_range_eq_some] at h
  obtain ⟨h1, h2, h3⟩ := h
  simp at h1 h2
  refine ⟨h1.1, h2, h1.2, fun b hb hba => ?_⟩
  have := h3 b hba
  simpa [hb] using this
theorem nextO_none {q : Nat → Bool} {N fr : Nat} (h : nextO q N fr = none) : ∀ b, fr ≤ b → b < N → q b = false := by
  unfold nextO at h
  rw [List.find?_range_eq_none] at h
  intro b hb hn
  have := h b hn
  simpa [hb] using this
/-- All of them, each from the end of the one ahead on. -/
def occs (q : Nat → Bool) (N L : Nat) : Nat → Nat → List Nat
  | 0, _ => []
  | k + 1, fr => match nextO q N fr with
    | none => []
    | some a => a :: occs q N L k (a + L)

/-- A code whose ways to the end are those of a text of L bytes where q says so, with these notes. -/
structure Fix (cd : Nat → In) (n D bg : Nat) (text : ByteArray) (L : Nat) (q : Nat → Bool) (nt : Nat → Nat → Int) : Prop where
  ok : Cok cd n D bg
  pos : 1 ≤ L
  od : OD cd text bg
  sound : ∀ e t, Way cd text bg 0 e t → (cd t.pc).kind = 6 → ∃ a, q a = true ∧ e = a + L ∧ nu t.x 1 e = nt a ∧ t.x 0 = a
  here : ∀ fr a, fr ≤ a → q a = true → ∃ t, Way cd text bg fr (a + L) t ∧ (cd t.pc).kind = 6 ∧ t.x 0 = a
  lt : ∀ a, q a = true → a + L ≤ text.size
  n0 : ∀ a, nt a 0 = a
  n1 : ∀ a, nt a 1 = ((a + L : Nat) : Int)

theorem Fix.ne {L : Nat} {q : Nat → Bool} {nt : Nat → Nat → Int} (h : Fix cd n D bg text L q nt) : NE cd text bg := fun fr e t w h6 => by
  obtain ⟨a, _, h2, _, h4⟩ := h.sound e t (w.mono (Nat.zero_le _)) h6
  have := h.pos
  rw [h4, h2]; omega

theorem its_fix {L : Nat} {q : Nat → Bool} {nt : Nat → Nat → Int} (h : Fix cd n D bg text L q nt) : ∀ (k fr : Nat) (s : Mc), text.size + 1 - fr ≤ k → fr ≤ text.size + 1 → s.left = [] → s.ahead = [] → Clean cd n D text bg fr s → ItsP cd n D text bg ((occs q (text.size + 1) L k fr).map nt) fr s
  | 0, fr, s, hk, hfr, hl, ha, cl => by
    intro s' r
    obtain ⟨h1, _, _⟩ := search_ways h.ok h.ne h.od hl ha cl hfr r
    cases hf : s'.fd with
    | false => rfl
    | true =>
      obtain ⟨e, t, w, _⟩ := h1 hf
      have := w.x_ge h.ok
      have := w.x_le h.ok
      have := w.le
      omega
  | k + 1, fr, s, hk, hfr, hl, ha, cl => by
    have hb0 : ∀ b, q b = true → b < text.size + 1 := fun b hb => by have := h.lt b hb; omega
    unfold occs
    cases hn : nextO q (text.size + 1) fr with
    | none =>
      intro s' r
      obtain ⟨h1, _, _⟩ := search_ways h.ok h.ne h.od hl ha cl hfr r
      cases hf : s'.fd with
      | false => rfl
      | true =>
        obtain ⟨e, t, w, h6, _⟩ := h1 hf
        obtain ⟨a, qa, _, _, xa⟩ := h.sound e t (w.mono (Nat.zero_le _)) h6
        have := w.x_ge h.ok
        rw [nextO_none hn a (by omega) (hb0 a qa)] at qa
        cases qa
    | some a =>
      obtain ⟨n1, n2, n3, n4⟩ := nextO_some hn
      intro s' r
      obtain ⟨h1, h2, h3⟩ := search_ways h.ok h.ne h.od hl ha cl hfr r
      obtain ⟨t, w, h6, xt⟩ := h.here fr a n1 n3
      obtain ⟨hf, hle, hlong⟩ := h2 _ _ w h6
      obtain ⟨e', t', w', h6', hbest⟩ := h1 hf
      obtain ⟨a', qa', ee', hnt, xa'⟩ := h.sound e' t' (w'.mono (Nat.zero_le _)) h6'
      have hb : s'.best = nt a' := by rw [hbest]; exact hnt
      have ha' : a' = a := by
        have h0 : s'.best 0 = a' := by rw [hb]; exact h.n0 a'
        have hge := w'.x_ge h.ok
        have hle' : a' ≤ a := by omega
        rcases Nat.lt_or_ge a' a with z | z
        · rw [n4 a' (by omega) z] at qa'; cases qa'
        · omega
      subst ha'
      have b1 : s'.best 1 = ((a' + L : Nat) : Int) := by rw [hb]; exact h.n1 a'
      obtain ⟨c1, c2, c3⟩ := h3 hf (a' + L) b1
      obtain ⟨d1, d2⟩ := runs_nil (fr := fr) h.ok _ fr [] _ s' r (by omega) (Nat.le_refl _) (fun t ht => by cases ht) hl ha (fun hf => by cases hf)
      exact ⟨hf, hb, a' + L, h.n1 a', c1, by omega, its_fix h k (a' + L) s' (by omega) (by omega) d1 d2 c3⟩

theorem Way.from_ {fr0 : Nat} (hc : Cok cd n D bg) (h : Way cd text bg fr0 pl t) : (fr : Int) ≤ t.x 0 → Way cd text bg fr pl t := by
  induction h with
  | start a h h2 => exact fun hx => .start a (by simp [nz] at hx; omega) h2
  | eps w hu ih => exact fun hx => .eps (ih (by rw [eps_x hc (w.ok hc) hu] at hx; exact hx)) hu
  | byte w hb ih => exact fun hx => .byte (ih hx) hb
theorem clean0 : Clean cd n D text bg fr mc0 := fun _ _ _ => rfl

/-- A row of bytes. -/
theorem fix_row {ms : Nat → Nat → Bool} {L : Nat} {q : Nat → Bool} (hc : Cok cd n D (0 + L + 0)) (ch : Chain cd 0 0 L ms) (hL : 1 ≤ L) (hq : ∀ a, q a = true ↔ Stands 0 0 L ms text a) : Fix cd n D (0 + L + 0) text L q (fun a => nu (nz a) 1 ((a + L : Nat) : Int)) := by
  have cw : ∀ pl t, Way cd text (0 + L + 0) 0 pl t → ∃ a j, j ≤ L ∧ pl = a + j ∧ t.x = nz a ∧ t.pc = L - j := fun pl t w => by
    rcases chain_way ch w with ⟨e, _⟩ | ⟨a, j, h1, _, h2, _, h3, h4⟩ | ⟨e, _⟩
    · omega
    · exact ⟨a, j, h1, h2, h3, by omega⟩
    · omega
  refine ⟨hc, hL, fun pl t u wt wu sm => ?_, fun e t w h6 => ?_, fun fr a hfr qa => ?_, fun a qa => ((hq a).1 qa).2.1, fun a => ?_, fun a => ?_⟩
  · obtain ⟨a, j, h1, h2, h3, h4⟩ := cw pl t wt
    obtain ⟨a', j', h1', h2', h3', h4'⟩ := cw pl u wu
    have := sm.1
    rw [h3, h3']
    have : a = a' := by omega
    rw [this]
  · obtain ⟨a, st, he, hx⟩ := chain_found ch w h6
    exact ⟨a, (hq a).2 st, he, by rw [hx, he], by rw [hx]; simp [nz]⟩
  · obtain ⟨t, w, h6, hx⟩ := chain_stands ch ((hq a).1 qa)
    refine ⟨t, ?_, h6, by rw [hx]; simp [nz]⟩
    exact w.from_ hc (by rw [hx]; simp [nz]; omega)
  · simp [nu, nz]
  · simp [nu]
end
end Go.Proofs.YtonnimbcekhbgaaGreatDoor

/- KM. -/
namespace Go.Proofs.YtonnimbcekhbgaaGreatDoor
open Go.RowKit

theorem step_appS {P : Program} {ops : Array Oper} {o : Oper} {a : Act} {w : World} {K : Act → World → Prop} {Q : Exit → Act → World → Prop} {E : Prop} (hgd : o.guard = none) (sl x : Operand) (t u : TypeId)
    (ho : o.op = .call { callee := .builtin .append, args := #[sl, x], argTypes := #[t, u] })
    (base : Nat) (e : TypeId) (i : TypeInfo) (ht : P.underlying t = some (.slice e)) (hu : P.underlying u = some .string) (hi : P.info? e = some i) (hz : i.zero = some (.int .u8 0)) (hsize : i.size = 1) (hby : i.bytes = 1)
    (v : Value) (n : Nat) (xs : List Value) (hs : a.eval sl = v) (hown : w.ownsRow base e 1 v n xs) (s : ByteArray) (hx : a.eval x = .string s) (h63 : n + s.size ≤ 1000000) (hbase : base ≤ w.heap.size)
    (h : ∀ v' w', w'.ownsRow base e 1 v' (n + s.size) (xs ++ Lib.byteCells s.data.toList) → w.grownBy w' v.ownBlock → (∀ g, v'.ownBlock = some g → v.ownBlock = some g ∨ w.heap.size ≤ g) → K (a.put o.dst v') w') :
    if Region.wanted o (yielded ops a.tmps) = true then Oper.wp P o a w K Q else E := by
  have hw : Region.wanted o (yielded ops a.tmps) = true := by simp [Region.wanted, hgd]
  rw [if_pos hw]
  obtain ⟨v', w', hr, h2, h3, h4⟩ := run_appS (P := P) (ty := o.type) ht hu hi hz hsize hby hown s h63 hbase
  unfold Oper.wp
  simp [execOp, ho, resolve, invoke, builtin, hs, hx, hr, Result.andThen]
  exact h v' w' h2 h3 h4

/-- What stands there then: the text, with what was found in its holes. -/
def putN (plain sp : List UInt8) (nt : Nat → Nat) : Nat → List (Nat × Nat) → List UInt8
  | d, [] => plain.drop d
  | d, (a, g) :: hs => (plain.take a).drop d ++ ((sp.take (nt (2 * g + 1))).drop (nt (2 * g)) ++ putN plain sp nt a hs)

/-- A row of bytes that grows: what it was, and what else is as it was. -/
structure Grew (lo : Nat) (w : World) (v : Value) (xs : List UInt8) (w' : World) (v' : Value) (ys : List UInt8) : Prop where
  row : w'.ownsRow lo 5 1 v' ys.length (Lib.byteCells ys)
  kp : Kp v.ownBlock.toList w w'
  at_ : ∀ g, v'.ownBlock = some g → v.ownBlock = some g ∨ w.heap.size ≤ g
  lo : lo ≤ w'.heap.size
theorem Grew.refl {lo : Nat} {w : World} {v : Value} {xs : List UInt8} (h : w.ownsRow lo 5 1 v xs.length (Lib.byteCells xs)) (hl : lo ≤ w.heap.size) : Grew lo w v xs w v xs := ⟨h, Kp.refl _ _, fun _ e => .inl e, hl⟩
theorem Grew.keep {lo : Nat} {w w1 w2 : World} {v v1 : Value} {xs ys : List UInt8} (h : Grew lo w v xs w1 v1 ys) (k : Kp [] w1 w2) : Grew lo w v xs w2 v1 ys :=
  ⟨own_block h.row (fun p hp => k.block p (own_lt h.row hp).2 (by simp)), h.kp.trans (k.mono (by simp)), h.at_, Nat.le_trans h.lo k.size⟩
theorem Grew.more {lo : Nat} {w w1 w2 : World} {v v1 v2 : Value} {xs ys zs : List UInt8} (h : Grew lo w v xs w1 v1 ys) (ho : w2.ownsRow lo 5 1 v2 (ys.length + zs.length) (Lib.byteCells ys ++ Lib.byteCells zs)) (hg : w1.grownBy w2 v1.ownBlock) (hl : ∀ g, v2.ownBlock = some g → v1.ownBlock = some g ∨ w1.heap.size ≤ g) : Grew lo w v xs w2 v2 (ys ++ zs) := by
  have e : Lib.byteCells (ys ++ zs) = Lib.byteCells ys ++ Lib.byteCells zs := by simp [Lib.byteCells]
  have kg := kp_of_grown (S := v1.ownBlock.toList) hg (fun p hp => by rw [hp]; simp)
  refine ⟨by rw [e, List.length_append]; exact ho, h.kp.past kg (fun x hx => ?_), fun g e => ?_, Nat.le_trans h.lo hg.size⟩
  · have hx : v1.ownBlock = some x := by simpa using hx
    rcases h.at_ x hx with r | r
    · exact .inl (by simpa using r)
    · exact .inr r
  · rcases hl g e with r | r
    · exact h.at_ g r
    · exact .inr (Nat.le_trans h.kp.size r)
/-- Another's cell is as it was. -/
theorem Grew.cell {lo : Nat} {w w1 : World} {v v1 : Value} {xs ys : List UInt8} (h : Grew lo w v xs w1 v1 ys) {p : Addr} {u : Value} (hc : w.cell? p = some u) (hn : v.ownBlock ≠ some p.block) : w1.cell? p = some u :=
  (h.kp.cell (World.block_lt_of_cell? _ _ hc) (by simpa using hn)).trans hc

section
variable {w w' : World}

set_option maxRecDepth 100000 in
set_option maxHeartbeats 4000000 in
theorem appendNew_v {lo nb no f po m cap hc : Nat} {A : Option Addr} {v : Value} {xs plain sp : List UInt8} {holes : List (Nat × Nat)} {nt : Nat → Nat} (hrow : w.ownsRow lo 5 1 v xs.length (Lib.byteCells xs)) (hlo : lo ≤ w.heap.size) (hx : xs.length ≤ 10000) (hp : plain.length ≤ 2000) (hs : sp.length ≤ 5000) (hh : holes.length ≤ 50)
    (c1 : w.cell? ⟨nb, no + 1, none⟩ = some (.string (ba plain))) (c2 : w.cell? ⟨nb, no + 2, none⟩ = some (.slice A holes.length hc)) (n1 : v.ownBlock ≠ some nb)
    (hH : ∀ (i a g : Nat), holes[i]? = some (a, g) → ∃ hb : Nat, A = some ⟨hb, 0, none⟩ ∧ v.ownBlock ≠ some hb ∧ w.cell? ⟨hb, i * 2, none⟩ = some (.int .i64 a) ∧ w.cell? ⟨hb, i * 2 + 1, none⟩ = some (.int .i64 g) ∧ a ≤ plain.length ∧ 2 * g + 1 < m ∧ nt (2 * g) ≤ nt (2 * g + 1) ∧ nt (2 * g + 1) ≤ sp.length)
    (hO : ∀ (i a g a' g' : Nat), holes[i]? = some (a, g) → holes[i + 1]? = some (a', g') → a ≤ a') (n2 : v.ownBlock ≠ some f) (hP : ∀ j, j < m → w.cell? ⟨f, po + j, none⟩ = some (.int .i64 (nt j))) (hm : m ≤ 20) :
    Calls Tryz.prog 123 #[v, .pointer (some ⟨nb, no, none⟩), .string (ba sp), .slice (some ⟨f, po, none⟩) m cap] w fun r w' => ∃ v', r = .returned v' ∧ Grew lo w v xs w' v' (xs ++ putN plain sp nt 0 holes) := by
  obtain ⟨i0, hi, hz0, hz1, hz2⟩ := info_parts Tryz.infoByte
  have HI := hid (And.intro hi (And.intro hz0 (And.intro hz1 hz2)))
  have HH := hid hH
  have HO := hid hO
  have HP := hid hP
  have HC1 := hid c1
  have G0 := hid (Grew.refl hrow hlo)
  clear hi hz0 hz1 hz2 hH hO hP hrow c1
  go_enter Tryz.func123, Tryz.ntmps123
  go_wp2_with fail
  clear c2
  go_loopw [0, 9, 11, 12, 13, 19] (fun va vd _ _ _ vk wr => ∃ (k d : Nat) (ys : List UInt8), vk = .int .i64 k ∧ vd = .int .i64 d ∧ k ≤ holes.length ∧ d ≤ plain.length ∧ Hid (Grew lo w v xs wr va ys) ∧ Hid (ys ++ putN plain sp nt d (holes.drop k) = xs ++ putN plain sp nt 0 holes) ∧ Hid (ys.length ≤ 10000 + k * 10000) ∧ Hid (∀ (a g : Nat), holes[k]? = some (a, g) → d ≤ a)) (fun _ _ _ _ _ vk _ => holes.length - (intOf vk).toNat)
  case atStart => exact ⟨0, 0, xs, rfl, rfl, by omega, by omega, G0, hid (by simp), hid (by omega), hid (fun a g _ => Nat.zero_le _)⟩
  case round =>
    obtain ⟨k, d, ys, rfl, rfl, hk, hd, GR, HE, HY, HD⟩ := hrel
    by_cases hkn : k < holes.length
    · obtain ⟨⟨a, g⟩, hag⟩ : ∃ q, holes[k]? = some q := ⟨_, List.getElem?_eq_getElem hkn⟩
      obtain ⟨hb, rfl, nh, h0, h1, q1, q2, q3, q4⟩ := HH.out k a g hag
      have hda := HD.out a g hag
      have e0 := GR.out.cell h0 nh
      have e1 := GR.out.cell h1 nh
      obtain ⟨k1, hk1⟩ : ∃ k1 : Nat, (k : Int) + 1 = (k1 : Int) := ⟨k + 1, by omega⟩
      have wk := wrap_i64_nat k1 (by omega)
      clear h0 h1
      have zp := ba_size plain
      have zs := ba_size sp
      have hap : a ≤ plain.length := q1
      obtain ⟨P1, hP1⟩ : ∃ P1, P1 = (plain.take a).drop d := ⟨_, rfl⟩
      have x1 : (ba plain).extract d a = ba P1 := by rw [ba_extract, hP1]
      have lP1 : P1.length ≤ 2000 := by rw [hP1, List.length_drop, List.length_take]; omega
      have zP1 := ba_size P1
      have HPP1 := hid hP1
      clear hP1
      have ka := Kp.alloc [] wr (.cells #[.int .i64 a, .int .i64 g] 152)
      have BT := Bl.alloc wr [.int .i64 a, .int .i64 g] 152
      have G1 := hid (GR.out.keep ka)
      have hut : u0.ownBlock ≠ some wr.heap.size := fun e => by have := (own_lt GR.out.row e).2; omega
      obtain ⟨t, ht⟩ : ∃ t, t = wr.heap.size := ⟨_, rfl⟩
      obtain ⟨w1, hw1⟩ : ∃ w1, w1 = wr.alloc (.cells #[.int .i64 a, .int .i64 g] 152) := ⟨_, rfl⟩
      go_upto_region 5 with fail
      rw [← ht, ← hw1] at BT
      rw [← ht] at hut
      rw [← hw1] at G1 ka
      rw [← ht, ← hw1]
      have htw : w.heap.size ≤ t := by rw [ht]; exact GR.out.kp.size
      clear ht hw1 e0 e1
      have hS : (fun w' : World => w'.cell? ⟨nb, no + 1, none⟩ = some (.string (ba plain)) ∧ w'.cell? ⟨t, 0, none⟩ = some (.int .i64 (a : Int))) w1.drew := ⟨(G1.out.keep (Kp.drew [] w1)).cell HC1.out n1, (BT.keep (Kp.drew [] w1) (by simp)).at_ 0 _ rfl⟩
      have GD := hid (G1.out.keep (Kp.drew [] w1))
      have BD := hid (BT.keep (Kp.drew [] w1) (by simp))
      refine wp_region_T (fun w' : World => w'.cell? ⟨nb, no + 1, none⟩ = some (.string (ba plain)) ∧ w'.cell? ⟨t, 0, none⟩ = some (.int .i64 (a : Int))) 11 (by kernel_rfl) ?_
      obtain ⟨w2, hw2⟩ : ∃ w2, w2 = w1.drew := ⟨_, rfl⟩
      rw [← hw2] at hS GD BD ⊢
      clear hw2 BT ka
      refine wpAnyT_take (i := 0) (v := ?v0) rfl (by kernel_rfl) (by kernel_rfl) (by kernel_rfl) (by kernel_rfl) (fun _ _ _ h => h) (Or.inl ⟨by rfl, ?y0⟩) hS ?_
      case y0 => (intro w hSw; (try dsimp only at hSw); go_simp; (try with_reducible rfl))
      simp only [List.getElem_toArray, List.getElem_cons_zero, Act.put, List.setIfInBounds_toArray, List.set_cons_zero, List.set_cons_succ]
      refine wpAnyT_take (i := 1) (v := ?v1) rfl (by kernel_rfl) (by kernel_rfl) (by kernel_rfl) (by kernel_rfl) (fun _ _ _ h => h) (Or.inl ⟨by rfl, ?y1⟩) hS ?_
      case y1 => (intro w hSw; (try dsimp only at hSw); go_simp; (try with_reducible rfl))
      simp only [List.getElem_toArray, List.getElem_cons_succ, List.getElem_cons_zero, Act.put, List.setIfInBounds_toArray, List.set_cons_zero, List.set_cons_succ]
      refine wpAnyT_take (i := 2) (v := ?v2) rfl (by kernel_rfl) (by kernel_rfl) (by kernel_rfl) (by kernel_rfl) (fun _ _ _ h => h) (Or.inl ⟨by rfl, ?y2⟩) hS ?_
      case y2 => (intro w hSw; (try dsimp only at hSw); go_simp; (try with_reducible rfl))
      simp only [List.getElem_toArray, List.getElem_cons_succ, List.getElem_cons_zero, Act.put, List.setIfInBounds_toArray, List.set_cons_zero, List.set_cons_succ]
      refine wpAnyT_take (i := 3) (v := ?v3) rfl (by kernel_rfl) (by kernel_rfl) (by kernel_rfl) (by kernel_rfl) (fun _ _ _ h => h) (Or.inl ⟨by rfl, ?y3⟩) hS ?_
      case y3 => (intro w hSw; (try dsimp only at hSw); go_simp; (try with_reducible rfl))
      simp only [List.getElem_toArray, List.getElem_cons_succ, List.getElem_cons_zero, Act.put, List.setIfInBounds_toArray, List.set_cons_zero, List.set_cons_succ]
      refine wpAnyT_take (i := 4) (v := ?v4) rfl (by kernel_rfl) (by kernel_rfl) (by kernel_rfl) (by kernel_rfl) (fun _ _ _ h => h) (Or.inl ⟨by rfl, ?y4⟩) hS ?_
      case y4 => (intro w hSw; (try dsimp only at hSw); go_simp; (try with_reducible rfl))
      simp only [List.getElem_toArray, List.getElem_cons_succ, List.getElem_cons_zero, Act.put, List.setIfInBounds_toArray, List.set_cons_zero, List.set_cons_succ]
      refine wpAnyT_take (i := 5) (v := ?v5) rfl (by kernel_rfl) (by kernel_rfl) (by kernel_rfl) (by kernel_rfl) (fun _ _ _ h => h) (Or.inl ⟨by rfl, ?y5⟩) hS ?_
      case y5 => (intro w hSw; (try dsimp only at hSw); go_simp; (try with_reducible rfl))
      simp only [List.getElem_toArray, List.getElem_cons_succ, List.getElem_cons_zero, Act.put, List.setIfInBounds_toArray, List.set_cons_zero, List.set_cons_succ]
      refine wpAnyT_take (i := 6) (v := ?v6) rfl (by kernel_rfl) (by kernel_rfl) (by kernel_rfl) (by kernel_rfl) (fun _ _ _ h => h) (Or.inl ⟨by rfl, ?y6⟩) hS ?_
      case y6 => (intro w hSw; (try dsimp only at hSw); go_simp; (try with_reducible rfl))
      simp only [List.getElem_toArray, List.getElem_cons_succ, List.getElem_cons_zero, Act.put, List.setIfInBounds_toArray, List.set_cons_zero, List.set_cons_succ]
      refine wpAnyT_take (i := 7) (v := ?v7) rfl (by kernel_rfl) (by kernel_rfl) (by kernel_rfl) (by kernel_rfl) (fun _ _ _ h => h) (Or.inl ⟨by rfl, ?y7⟩) hS ?_
      case y7 => (intro w hSw; (try dsimp only at hSw); go_simp; (try with_reducible rfl))
      simp only [List.getElem_toArray, List.getElem_cons_succ, List.getElem_cons_zero, Act.put, List.setIfInBounds_toArray, List.set_cons_zero, List.set_cons_succ]
      refine wpAnyT_take (i := 8) (v := ?v8) rfl (by kernel_rfl) (by kernel_rfl) (by kernel_rfl) (by kernel_rfl) (fun _ _ _ h => h) (Or.inl ⟨by rfl, ?y8⟩) hS ?_
      case y8 => (intro w hSw; (try dsimp only at hSw); go_simp; (try with_reducible rfl))
      simp only [List.getElem_toArray, List.getElem_cons_succ, List.getElem_cons_zero, Act.put, List.setIfInBounds_toArray, List.set_cons_zero, List.set_cons_succ]
      refine wpAnyT_take (i := 9) (v := ?v9) rfl (by kernel_rfl) (by kernel_rfl) (by kernel_rfl) (by kernel_rfl) (fun _ _ _ h => h) (Or.inl ⟨by rfl, ?y9⟩) hS ?_
      case y9 => (intro w hSw; (try dsimp only at hSw); go_simp; (try with_reducible rfl))
      simp only [List.getElem_toArray, List.getElem_cons_succ, List.getElem_cons_zero, Act.put, List.setIfInBounds_toArray, List.set_cons_zero, List.set_cons_succ]
      refine wpAnyT_one (i := 10) (by kernel_rfl) rfl (fun K hK => ?_)
      refine step_appS (by rfl) (.tmp 23) (.tmp 32) 34 9 (by rfl) lo 5 i0 Tryz.underlying34 Tryz.underlying9 HI.out.1 HI.out.2.1 HI.out.2.2.1 HI.out.2.2.2 u0 ys.length (Lib.byteCells ys) (by rfl) GD.out.row (ba P1) (by rfl) (by rw [zP1]; have := HY.out; have := Nat.mul_le_mul_right 10000 (show k ≤ 49 by omega); omega) GD.out.lo ?_
      intro v3 w3 ho3 hg3 hl3
      rw [ba_size, ba_list] at ho3
      have G3 := hid (GD.out.more ho3 hg3 hl3)
      have B3 := hid (BD.out.keep (kp_of_grown (S := u0.ownBlock.toList) hg3 (fun p hp => by rw [hp]; simp)) (fun q => hut (by simpa using q)))
      have hS3 : (fun w' : World => w'.cell? ⟨nb, no + 1, none⟩ = some (.string (ba plain)) ∧ w'.cell? ⟨t, 0, none⟩ = some (.int .i64 (a : Int))) w3 := ⟨G3.out.cell HC1.out n1, B3.out.at_ 0 _ rfl⟩
      have hv3 : Hid (v3.ownBlock ≠ some t) := hid (fun e => by
        rcases hl3 t e with r | r
        · exact hut r
        · have := BD.out.lt; omega)
      clear ho3 hg3 hl3 GD BD hS
      refine hK.out _ _ (.inr hS3) ?_
      clear hK K
      refine wpAnyT_one (i := 11) (by kernel_rfl) rfl (fun K hK => ?_)
      go_simp
      refine hK.out _ _ (.inl rfl) ?_
      clear hK K
      refine wpAnyT_done (by kernel_rfl) ?_ _
      have t0 := B3.out.at_ 0 _ rfl
      have t1 := B3.out.at_ 1 _ rfl
      obtain ⟨g2, hg2⟩ : ∃ g2 : Nat, (2 : Int) * (g : Int) = (g2 : Int) := ⟨2 * g, by push_cast; rfl⟩
      obtain ⟨g3, hg3⟩ : ∃ g3 : Nat, (g2 : Int) + 1 = (g3 : Int) := ⟨g2 + 1, by omega⟩
      have wg2 := wrap_i64_nat g2 (by omega)
      have wg3 := wrap_i64_nat g3 (by omega)
      have m2 : g2 < m := by omega
      have m3 : g3 < m := by omega
      have f2 := G3.out.cell (HP.out g2 m2) n2
      have f3 := G3.out.cell (HP.out g3 m3) n2
      obtain ⟨X, hX⟩ : ∃ X, X = nt g2 := ⟨_, rfl⟩
      obtain ⟨Y, hY⟩ : ∃ Y, Y = nt g3 := ⟨_, rfl⟩
      rw [← hX] at f2
      rw [← hY] at f3
      have hXY : X ≤ Y := by rw [hX, hY, show g2 = 2 * g by omega, show g3 = 2 * g + 1 by omega]; exact q3
      have hYs : Y ≤ sp.length := by rw [hY, show g3 = 2 * g + 1 by omega]; exact q4
      have HXY : Hid (X = nt (2 * g) ∧ Y = nt (2 * g + 1)) := hid ⟨by rw [hX, show g2 = 2 * g by omega], by rw [hY, show g3 = 2 * g + 1 by omega]⟩
      obtain ⟨P2, hP2⟩ : ∃ P2, P2 = (sp.take Y).drop X := ⟨_, rfl⟩
      have x2 : (ba sp).extract X Y = ba P2 := by rw [ba_extract, hP2]
      have lP2 : P2.length ≤ 5000 := by rw [hP2, List.length_drop, List.length_take]; omega
      have zP2 := ba_size P2
      have HPP := hid (And.intro HPP1.out hP2)
      clear hX hY hP2 q3 q4 hS3
      go_wp2_with fail
      go_quiet (fail)
      have G4 := hid (G3.out.keep (Kp.drewN [] w3 nq))
      obtain ⟨w4, hw4⟩ : ∃ w4, w4 = w3.drewN nq := ⟨_, rfl⟩
      rw [← hw4] at G4 ⊢
      clear hw4 t0 t1 f2 f3 G3 B3
      go_wp2_with (at_builtin; refine wpList_appS rfl _ _ 34 9 rfl lo 5 i0 Tryz.underlying34 Tryz.underlying9 HI.out.1 HI.out.2.1 HI.out.2.2.1 HI.out.2.2.2 v3 (ys ++ P1).length (Lib.byteCells (ys ++ P1)) rfl G4.out.row (ba P2) rfl (by rw [zP2, List.length_append]; have := HY.out; have := Nat.mul_le_mul_right 10000 (show k ≤ 49 by omega); omega) G4.out.lo ?_; intro v5 w5 ho5 hg5 hl5; rw [ba_size, ba_list] at ho5)
      have G5 := hid (G4.out.more ho5 hg5 hl5)
      go_round
      case rel =>
        refine ⟨k1, a, _, rfl, rfl, by omega, hap, G5, hid ?_, hid ?_, hid (fun a' g' h => ?_)⟩
        · rw [← HE.out, show k1 = k + 1 by omega, List.drop_eq_getElem_cons hkn]
          have := (List.getElem?_eq_some_iff.1 hag).2
          rw [this, putN, HPP.out.1, HPP.out.2, HXY.out.1, HXY.out.2]
          simp [List.append_assoc]
        · rw [List.length_append, List.length_append]
          have := HY.out
          rw [show k1 = k + 1 by omega, Nat.add_mul]
          omega
        · exact HO.out k a g a' g' hag (by rw [← show k1 = k + 1 by omega]; exact h)
      case measure => simp [intOf]; omega
    · have e : k = holes.length := by omega
      subst e
      have zp := ba_size plain
      have c1 := GR.out.cell HC1.out n1
      obtain ⟨P1, hP1⟩ : ∃ P1, P1 = plain.drop d := ⟨_, rfl⟩
      have x1 : (ba plain).extract d plain.length = ba P1 := by rw [ba_extract, hP1, List.take_length]
      have lP1 : P1.length ≤ 2000 := by rw [hP1, List.length_drop]; omega
      have zP1 := ba_size P1
      have HPP := hid hP1
      clear hP1
      go_wp2_with (at_builtin; refine wpList_appS rfl _ _ 34 9 rfl lo 5 i0 Tryz.underlying34 Tryz.underlying9 HI.out.1 HI.out.2.1 HI.out.2.2.1 HI.out.2.2.2 u0 ys.length (Lib.byteCells ys) rfl GR.out.row (ba P1) rfl (by rw [zP1]; have := HY.out; have := Nat.mul_le_mul_right 10000 (show holes.length ≤ 50 by omega); omega) GR.out.lo ?_; intro v5 w5 ho5 hg5 hl5; rw [ba_size, ba_list] at ho5)
      have G5 := hid (GR.out.more ho5 hg5 hl5)
      go_ret
      refine ⟨v5, rfl, ?_⟩
      have he := HE.out
      rw [List.drop_length, putN, ← HPP.out] at he
      rw [← he]
      exact G5.out
end
end Go.Proofs.YtonnimbcekhbgaaGreatDoor
