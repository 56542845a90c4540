/- What the claim needs of: KK GLToGM. -/
import Derived.Test.YtonnimbcekhbgaaGreatDoorX32
import Derived.Test.YtonnimbcekhbgaaGreatDoorX30
import Derived.RangeFuncNested
import Derived.RangeFuncBound
import Derived.RangeFuncCalls
import Derived.RangeFuncLeaves
import Derived.Shelf.Abstract
import Derived.Shelf.RegionOpen
import Derived.OwnWalkIn
import Derived.TacticsInMore
import Derived.LoopNIn
import Derived.LoopIn
import Derived.Laws.OwnMore

/- KK. -/
namespace Go.Proofs.YtonnimbcekhbgaaGreatDoor
open Go.RowKit

section
variable {cd : Nat → In} {n D bg fr pl : Nat} {text : ByteArray} {t u v : Thr} {s s' s1 : Mc}

theorem drive_marks (hc : Cok cd n D bg) {b : Int} : ∀ (k : Nat) (o : Option Thr) (s s' : Mc), drive cd n D text pl k o s = some s' → (∀ t ∈ o.toList ++ s.left, Way cd text bg fr pl t ∧ t.x 0 = b) →
    ∀ x, s'.sn x = true → s.sn x = true ∨ ∃ u, Way cd text bg fr pl u ∧ u.x 0 = b ∧ x = seenAt n D pl u
  | 0, _, _, _, h, _ => by cases h
  | k + 1, some t, s, s', h, hp => by
    obtain ⟨wt, xt⟩ := hp t (by simp)
    rw [drive] at h
    split at h
    · exact drive_marks hc k none s s' h (fun q hq => hp q (by simp at hq; simp [hq]))
    · rw [stepA_eq (hc.ok _ (wt.ok hc).1).1] at h
      intro x hx
      rcases drive_marks hc (b := b) k _ _ s' h (fun q hq => by
        have hq' : q ∈ s.left ∨ q ∈ eps cd text pl t := by
          rcases List.mem_append.1 hq with e | e
          · exact .inr ((eps_split t q).2 (List.mem_append_left _ e))
          · rcases List.mem_append.1 e with e | e
            · exact .inl e
            · exact .inr ((eps_split t q).2 (List.mem_append_right _ e))
        rcases hq' with e | e
        · exact hp q (by simp [e])
        · exact ⟨.eps wt e, by rw [eps_x hc (wt.ok hc) e]; exact xt⟩) x hx with e | e
      · have e : more s.sn (seenAt n D pl t) x = true := e
        unfold more at e
        by_cases q : x = seenAt n D pl t
        · exact .inr ⟨t, wt, xt, q⟩
        · exact .inl (by simpa [q] using e)
      · exact .inr e
  | k + 1, none, s, s', h, hp => by
    rw [drive] at h
    split at h
    · cases h
      exact fun x hx => .inl hx
    · rename_i q hl
      have hd : ∀ z, z ∈ s.left.dropLast → z ∈ s.left := fun z hz => List.dropLast_subset _ hz
      exact drive_marks hc k (some q) { s with left := s.left.dropLast } s' h (fun z hz => by
        have hz' : z = q ∨ z ∈ s.left.dropLast := by simpa using hz
        rcases hz' with e | e
        · rw [e]; exact hp q (by simp [List.mem_of_getLast? hl])
        · exact hp z (by simp [hd z e]))

/-- No way is empty. -/
def NE (cd : Nat → In) (text : ByteArray) (bg : Nat) : Prop := ∀ fr e t, Way cd text bg fr e t → (cd t.pc).kind = 6 → t.x 0 < e
theorem Vd.lt (hv : Vd cd text bg fr s) (ne : NE cd text bg) (hf : s.fd = true) : s.best 0 < s.best 1 := by
  obtain ⟨e, t, h1, h2, h3⟩ := hv hf
  rw [h3]
  have := ne _ _ _ h1 h2
  unfold nu
  rw [if_neg (by omega), if_pos rfl]
  exact this

abbrev allT : Nat → Bool := fun _ => true

theorem sweep_marks (hc : Cok cd n D bg) (ne : NE cd text bg) : ∀ (here : List Thr) (s s' : Mc), Sweep cd n D text pl here s s' → here.Pairwise (fun a b => a.x 0 ≤ b.x 0) → (∀ t ∈ here, Way cd text bg fr pl t) → s.left = [] → (∀ t ∈ s.ahead, Way cd text bg fr (pl + 1) t) → Vd cd text bg fr s → (s.fd = true → s.best 1 ≤ pl) →
    (∀ x, s'.sn x = true → s.sn x = true ∨ ∃ u, Way cd text bg fr pl u ∧ x = seenAt n D pl u ∧ (s'.fd = true → u.x 0 < s'.best 1)) ∧ (s.fd = true → s'.fd = true ∧ s.best 1 ≤ s'.best 1 ∧ s'.best 1 ≤ pl) ∧ (s.fd = false → s'.fd = true → s'.best 1 = pl ∧ ∃ w ∈ here, s'.best 0 = w.x 0)
  | [], s, s', h, _, _, _, _, _, hlt => by
    rw [show s' = s from h]
    exact ⟨fun x hx => .inl hx, fun hf => ⟨hf, Int.le_refl _, hlt hf⟩, fun h1 h2 => by rw [h1] at h2; cases h2⟩
  | t :: l, s, s', h, hp, hw, hl, ha, hv, hlt => by
    rcases h with ⟨h1, _, rfl⟩ | ⟨hcut, s1, ⟨k, g⟩, q⟩
    · exact ⟨fun x hx => .inl hx, fun hf => ⟨hf, Int.le_refl _, hlt hf⟩, fun h2 h3 => by rw [h2] at h3; cases h3⟩
    · have wt := hw t (by simp)
      have hp' := List.pairwise_cons.1 hp
      have hcut' : s.fd = true → t.x 0 ≤ s.best 0 := fun hf => by
        by_cases z : s.best 0 < t.x 0
        · exact absurd ⟨hf, z⟩ hcut
        · omega
      obtain ⟨a1, a2, a3⟩ := drive_sound hc k (some t) s s1 g (fun z hz => by
        have e : z = t := by simpa [hl] using hz
        rw [e]; exact wt) ha hv
      obtain ⟨_, b2, _, _, _, b6⟩ := drive_closed hc (S0 := allT) (b := t.x 0) k (some t) s s1 g (fun z hz => by
        have e : z = t := by simpa [hl] using hz
        rw [e]; exact ⟨wt.ok hc, rfl⟩) hcut' (fun _ _ _ => .inl rfl)
      have mk := drive_marks hc (b := t.x 0) (fr := fr) k (some t) s s1 g (fun z hz => by
        have e : z = t := by simpa [hl] using hz
        rw [e]; exact ⟨wt, rfl⟩)
      have lt1 : s1.fd = true → s1.best 1 ≤ pl := fun hf => by
        rcases b6 with ⟨e1, e2⟩ | ⟨_, _, e3⟩
        · rw [e2]; exact hlt (by rw [← e1]; exact hf)
        · rw [e3]; exact Int.le_refl _
      have xt1 : s1.fd = true → t.x 0 < s1.best 1 := fun hf => by
        have v1 := a2.lt ne hf
        rcases b6 with ⟨e1, e2⟩ | ⟨_, e2, _⟩
        · have := hcut' (by rw [← e1]; exact hf)
          rw [e2] at v1 ⊢
          omega
        · omega
      obtain ⟨c1, c2, c3⟩ := sweep_marks hc ne l s1 s' q hp'.2 (fun z hz => hw z (by simp [hz])) a3 a1 a2 lt1
      have vs := (sweep_sound hc l s1 s' q (fun z hz => hw z (by simp [hz])) a3 a1 a2).2.1
      refine ⟨fun x hx => ?_, fun hf => ?_, fun hf hf' => ?_⟩
      · rcases c1 x hx with e | e
        · rcases mk x e with e | ⟨u, h1, h2, h3⟩
          · exact .inl e
          · refine .inr ⟨u, h1, h3, fun hf' => ?_⟩
            rw [h2]
            cases hf1 : s1.fd with
            | true =>
              have := (c2 hf1).2.1
              have := xt1 hf1
              omega
            | false =>
              obtain ⟨d1, w, hw', d2⟩ := c3 hf1 hf'
              have := hp'.1 w hw'
              have := vs.lt ne hf'
              omega
        · exact .inr e
      · obtain ⟨g1, _, g3⟩ := b2.fd hf
        obtain ⟨d1, d2, d3⟩ := c2 g1
        refine ⟨d1, ?_, d3⟩
        have := hlt hf
        rcases g3 with r | r <;> omega
      · cases hf1 : s1.fd with
        | true =>
          rcases b6 with ⟨e1, _⟩ | ⟨_, e2, e3⟩
          · rw [hf, hf1] at e1; cases e1
          · obtain ⟨d1, d2, d3⟩ := c2 hf1
            refine ⟨by omega, ?_⟩
            -- the best is this one's, or one's behind it
            rcases (sweep_closed hc (S0 := allT) l s1 s' q hp'.2 (fun z hz => (hw z (by simp [hz])).ok hc) a3 (fun _ _ _ _ _ => .inl rfl)).2.2.2.2.2 with ⟨_, r⟩ | ⟨_, ⟨w, hw', r⟩, _⟩
            · exact ⟨t, by simp, by rw [r]; exact e2⟩
            · exact ⟨w, by simp [hw'], r⟩
        | false =>
          obtain ⟨d1, w, hw', d2⟩ := c3 hf1 hf'
          exact ⟨d1, w, by simp [hw'], d2⟩

/-- All that was marked was a way, and what is found ends behind where it began. -/
theorem runs_marks (hc : Cok cd n D bg) (ne : NE cd text bg) : ∀ (k pl : Nat) (here : List Thr) (s s' : Mc), Runs cd n D text bg k pl here s s' → k + pl = text.size + 1 → fr ≤ pl → here.Pairwise (fun a b => a.x 0 ≤ b.x 0) → (∀ t ∈ here, Way cd text bg fr pl t ∧ t.x 0 < pl) → s.left = [] → s.ahead = [] → Vd cd text bg fr s → (s.fd = true → s.best 1 < pl) →
    (∀ x, s'.sn x = true → s.sn x = true ∨ ∃ pl' u, Way cd text bg fr pl' u ∧ x = seenAt n D pl' u ∧ (s'.fd = true → u.x 0 < s'.best 1)) ∧ (s.fd = true → s'.fd = true ∧ s.best 1 ≤ s'.best 1) ∧ (s.fd = false → s'.fd = true → pl ≤ s'.best 1)
  | 0, pl, here, s, s', h, _, _, _, _, _, _, _, _ => by
    rw [show s' = s from h]
    exact ⟨fun x hx => .inl hx, fun hf => ⟨hf, Int.le_refl _⟩, fun h1 h2 => by rw [h1] at h2; cases h2⟩
  | k + 1, pl, here, s, s', h, hk, hf, hp, hw, hl, ha, hv, hlt => by
    rcases h with ⟨_, rfl⟩ | ⟨_, s1, sw, rn⟩
    · exact ⟨fun x hx => .inl hx, fun hf => ⟨hf, Int.le_refl _⟩, fun h1 h2 => by rw [h1] at h2; cases h2⟩
    · have hst : ∀ t ∈ (if s.fd = true then here else here ++ [(⟨bg, 0, nz pl⟩ : Thr)]), Way cd text bg fr pl t ∧ t.x 0 ≤ pl := fun t ht => by
        split at ht
        · have := hw t ht
          exact ⟨this.1, by omega⟩
        · rcases List.mem_append.1 ht with e | e
          · have := hw t e
            exact ⟨this.1, by omega⟩
          · rw [List.mem_singleton.1 e]
            exact ⟨.start pl hf (by omega), by simp [nz]⟩
      have hpw : (if s.fd = true then here else here ++ [(⟨bg, 0, nz pl⟩ : Thr)]).Pairwise (fun a b => a.x 0 ≤ b.x 0) := by
        split
        · exact hp
        · rw [List.pairwise_append]
          refine ⟨hp, by simp, fun y hy z hz => ?_⟩
          rw [List.mem_singleton.1 hz]
          have := (hw y hy).2
          simp [nz]; omega
      have haw : ∀ t ∈ s.ahead, Way cd text bg fr (pl + 1) t := by rw [ha]; intro z hz; cases hz
      obtain ⟨c1, c2, c3⟩ := sweep_marks hc ne _ s s1 sw hpw (fun t ht => (hst t ht).1) hl haw hv (fun h => by have := hlt h; omega)
      obtain ⟨d1, d2, d3⟩ := sweep_sound hc _ s s1 sw (fun t ht => (hst t ht).1) hl haw hv
      obtain ⟨_, _, _, ⟨l, a4, a5, a6⟩, _, _⟩ := sweep_closed hc (S0 := allT) _ s s1 sw hpw (fun t ht => (hst t ht).1.ok hc) hl (fun _ _ _ _ _ => .inl rfl)
      rw [ha, List.nil_append] at a4
      obtain ⟨r1, r2, r3⟩ := runs_marks hc ne k (pl + 1) s1.ahead { s1 with ahead := [] } s' rn (by omega) (by omega) (by rw [a4]; exact a5) (fun u hu => ⟨d1 u hu, by
        rw [a4] at hu
        obtain ⟨_, w, hw', e⟩ := a6 u hu
        have := (hst w hw').2
        rw [e]; omega⟩) d3 rfl d2 (fun h => by
          have h : s1.fd = true := h
          show s1.best 1 < _
          cases hs : s.fd with
          | true => have := (c2 hs).2.2; omega
          | false => have := (c3 hs h).1; omega)
      refine ⟨fun x hx => ?_, fun h => ?_, fun h1 h2 => ?_⟩
      · rcases r1 x hx with e | e
        · have e : s1.sn x = true := e
          rcases c1 x e with e | ⟨u, w1, w2, w3⟩
          · exact .inl e
          · refine .inr ⟨pl, u, w1, w2, fun h => ?_⟩
            cases hs1 : s1.fd with
            | true =>
              have := (r2 hs1).2
              have this : s1.best 1 ≤ s'.best 1 := this
              have := w3 hs1
              omega
            | false =>
              have := r3 hs1 h
              have := w1.x_le hc
              omega
        · exact .inr e
      · obtain ⟨e1, e2, _⟩ := c2 h
        obtain ⟨e3, e4⟩ := r2 e1
        have e4 : s1.best 1 ≤ s'.best 1 := e4
        exact ⟨e3, by omega⟩
      · cases hs1 : s1.fd with
        | true =>
          have q := (c3 h1 hs1).1
          have e4 : s1.best 1 ≤ s'.best 1 := (r2 hs1).2
          omega
        | false =>
          have := r3 hs1 h2
          omega

theorem Way.mono {fr' : Nat} (hf : fr ≤ fr') (h : Way cd text bg fr' pl t) : Way cd text bg fr pl t := by
  induction h with
  | start a h h2 => exact .start a (by omega) h2
  | eps _ hu ih => exact .eps ih hu
  | byte _ hb ih => exact .byte ih hb
/-- No way from a place on was marked. -/
def Clean (cd : Nat → In) (n D : Nat) (text : ByteArray) (bg fr : Nat) (s : Mc) : Prop := ∀ pl t, Way cd text bg fr pl t → s.sn (seenAt n D pl t) = false
theorem Way.freeS (hc : Clean cd n D text bg fr s) (h : Way cd text bg fr pl t) : WayF cd n D text bg fr s.sn pl t := by
  induction h with
  | start a h h2 => exact .start a h h2 (hc _ _ (.start a h h2))
  | eps w hu ih => exact .eps ih hu (hc _ _ (.eps w hu))
  | byte w hb ih => exact .byte ih hb (hc _ _ (.byte w hb))

/-- Where a way began is told by where it is. -/
def OD (cd : Nat → In) (text : ByteArray) (bg : Nat) : Prop := ∀ pl t u, Way cd text bg 0 pl t → Way cd text bg 0 pl u → sameC t u → t.x 0 = u.x 0

/-- One search, from a place on, where no way from there was marked. -/
theorem search_ways (hc : Cok cd n D bg) (ne : NE cd text bg) (od : OD cd text bg) (hl : s.left = []) (ha : s.ahead = []) (cl : Clean cd n D text bg fr s) (hfr : fr ≤ text.size + 1) (h : Runs cd n D text bg (text.size + 1 - fr) fr [] { s with fd := false } s') :
    (s'.fd = true → ∃ e t, Way cd text bg fr e t ∧ (cd t.pc).kind = 6 ∧ s'.best = nu t.x 1 e) ∧ (∀ e t, Way cd text bg fr e t → (cd t.pc).kind = 6 → s'.fd = true ∧ s'.best 0 ≤ t.x 0 ∧ (s'.best 0 = t.x 0 → (e : Int) ≤ s'.best 1)) ∧
      (s'.fd = true → ∀ fr' : Nat, s'.best 1 = fr' → fr < fr' ∧ fr' ≤ text.size ∧ Clean cd n D text bg fr' s') := by
  have v0 : Vd cd text bg fr ({ s with fd := false } : Mc) := fun hf => by cases hf
  have vs := runs_sound hc _ fr [] _ s' h (by omega) (Nat.le_refl _) (fun t ht => by cases ht) hl ha v0
  refine ⟨vs, fun e t hw h6 => ?_, fun hf fr' hb => ?_⟩
  · refine runs_complete (S0 := s.sn) (fr := fr) hc _ fr [] { s with fd := false } s' h (by omega) (Nat.le_refl _) ⟨fun t ht => ?_, List.Pairwise.nil, fun u hu => (by cases hu), fun _ _ _ _ => rfl, fun e t he hw => ?_, fun hf => (by cases hf), hl, ha⟩ e t (hw.freeS cl) h6
    · obtain ⟨_, p, t', e1, hw', _⟩ := ht
      have := hw'.way.x_ge hc
      have := hw'.way.x_le hc
      omega
    · have := hw.way.x_ge hc
      have := hw.way.x_le hc
      omega
  · obtain ⟨mk, _, _⟩ := runs_marks hc ne _ fr [] _ s' h (by omega) (Nat.le_refl _) List.Pairwise.nil (fun t ht => by cases ht) hl ha v0 (fun hf => by cases hf)
    obtain ⟨e, t, w, h6, hbest⟩ := vs hf
    have b1 : s'.best 1 = e := by rw [hbest]; unfold nu; rw [if_pos rfl]
    have hx := ne _ _ _ w h6
    have hge := w.x_ge hc
    have hle := w.le
    have lt : fr < fr' := by omega
    refine ⟨lt, by omega, fun pl u wu => ?_⟩
    cases hs : s'.sn (seenAt n D pl u) with
    | false => rfl
    | true =>
      exfalso
      rcases mk _ hs with q | ⟨pl', v, wv, es, hv⟩
      · have q : s.sn (seenAt n D pl u) = true := q
        rw [cl _ _ (wu.mono (by omega))] at q
        cases q
      · have ou := wu.ok hc
        have ov := wv.ok hc
        have hpl : pl = pl' := by
          rw [seenAt_eq, seenAt_eq] at es
          have h1 := at_lt ou.1 ou.2
          have h2 := at_lt ov.1 ov.2
          obtain ⟨Q, hQ⟩ : ∃ Q, Q = n * (D + 1) := ⟨_, rfl⟩
          rw [← hQ] at es h1 h2
          rcases Nat.lt_trichotomy pl pl' with q | q | q
          · have := Nat.mul_le_mul_right Q (show pl + 1 ≤ pl' from q)
            rw [Nat.add_mul, Nat.one_mul] at this
            omega
          · exact q
          · have := Nat.mul_le_mul_right Q (show pl' + 1 ≤ pl from q)
            rw [Nat.add_mul, Nat.one_mul] at this
            omega
        subst hpl
        have same := same_of_seen ou ov es
        have := od pl u v (wu.mono (Nat.zero_le _)) (wv.mono (Nat.zero_le _)) same
        have := hv hf
        have := wu.x_ge hc
        omega
end
end Go.Proofs.YtonnimbcekhbgaaGreatDoor

/- GLToGM. -/
namespace Go.Proofs.YtonnimbcekhbgaaGreatDoor
open Go.RowKit Go.Shelf
variable {Z : List (Nat × Obj)}
attribute [local go_sem] Oper.semAt_some

set_option maxHeartbeats 400000 in
theorem places_any (p : Nat) (text : ByteArray) (w : World) :
    Calls Tryz.prog 122 #[.pointer (some ⟨p, 0, none⟩), .string text] w fun e w' => e = .returned (.func (.func 137) #[] #[.pointer (some ⟨w.heap.size + 1, 0, none⟩), .pointer (some ⟨w.heap.size, 0, none⟩)]) ∧ w' = (w.alloc (.cells #[.pointer (some ⟨p, 0, none⟩)] 89)).alloc (.cells #[.string text] 9) := by
  have hmf : ∀ (fn : Fn) (first cap : Array Value) (w : World), (Instr.makeFunc fn first cap).run Tryz.prog w = .ok (.func fn first cap) w := fun _ _ _ _ => rfl
  go_enter Tryz.func122, Tryz.ntmps122
  go_wp2
  go_ret
  exact ⟨by simp [go_sem], rfl⟩

theorem slice_best (V : World) (f m : Nat) (hm : m ≤ 20) : (Instr.sliceAt 162 (.pointer (some ⟨f, 8, none⟩)) none (some (.int .i64 (m : Int))) none).run Tryz.prog V = .ok (.slice (some ⟨f, 8, none⟩) m 20) V := by
  have e20 : Tryz.prog.arrayLen 162 = 20 := by kernel_rfl
  have es : (sizeOf (Tryz.prog.elem 162)).run Tryz.prog V = .ok 1 V := by kernel_rfl
  rw [run_sliceAt_array_h V 162 ⟨f, 8, none⟩ (by kernel_rfl) .i64 (m : Int) (by omega) (by rw [e20]; omega), es, e20]
  simp [Result.andThen, slicedAt, Addr.add]

end Go.Proofs.YtonnimbcekhbgaaGreatDoor

/- A range over a function whose body leaves at once; Find. -/
namespace Go.Proofs.YtonnimbcekhbgaaGreatDoor
open Go.RowKit Go.Shelf
variable {Z : List (Nat × Obj)}
attribute [local go_sem] Oper.semAt_some

theorem grown_kp {W w' : World} {row : Option Nat} (hg : W.grownBy w' row) : Kp row.toList W w' :=
  ⟨hg.os, hg.tape, hg.output, hg.size, fun k hk hn => hg.block k hk (fun e => hn (by rw [← e]; simp))⟩

section
variable {F : Fence} {n : Nat} {P : Program}
/-- The statement: its record is laid, and the iterator is called. -/
theorem range_enters {g : Operand} {ps : Array Tmp} {assign body : Code} {Q : Exit → Act → World → Prop} {a : Act} {w : World} (hro : F.round = none) (h1 : 1 ≤ n) {gf : Nat} {lb : Array Value} (hg : a.eval g = .func (.func gf) #[] lb) (hFg : F.fn gf)
    (eg : ∀ args w, (callFunc gf args).run P w = .ok (.enter gf args) w)
    (h : ∀ (r : Loop) (W : World), F.fn r.fn → r.state = .ready → r.pending = none → r.tmps = a.tmps → r.params = ps → r.assign = assign → r.body = body → W = (w.alloc (.deferred (some []))).alloc (.loop r) →
      CallsIn F (n - 1) P gf (#[.func (.yield (w.heap.size + 1)) #[] #[]] ++ lb) W (rangePost F n P (w.heap.size + 1) Q { a with defers := [{ target := .collected w.heap.size, args := #[] }] ++ a.defers })) :
    (Code.rangeFunc g ps assign body).wpIn F n P Q a w := by
  refine wpIn_rangeFunc (fun fn hfn => ?_)
  rw [hro]
  obtain ⟨r, hr⟩ : ∃ r : Loop, r = { state := .ready, pending := none, fn, tmps := a.tmps, params := ps, assign, body, defers := w.heap.size } := ⟨_, rfl⟩
  obtain ⟨W, hW⟩ : ∃ W : World, W = (w.alloc (.deferred (some []))).alloc (.loop r) := ⟨_, rfl⟩
  refine ⟨w.heap.size + 1, [{ target := .collected w.heap.size, args := #[] }], W, { target := .fn (.func gf) lb, args := #[.func (.yield (w.heap.size + 1)) #[] #[]] }, W, gf, #[.func (.yield (w.heap.size + 1)) #[] #[]] ++ lb, W, by rw [hW, hr]; exact run_enterLoop_outer _ _ _ _ _, ?_, ?_, ?_, fun _ => h1, ?_⟩
  · simp only [resolve, hg]
    simp [go_sem]
  · intro f' hf'
    simp [Target.leads] at hf'
    subst hf'; exact hFg
  · simp [invoke, go_sem, eg]
  · exact h r W (by rw [hr]; exact hfn) (by rw [hr]) (by rw [hr]) (by rw [hr]) (by rw [hr]) (by rw [hr]) (by rw [hr]) hW

/-- The iterator has returned: the record is shut, and what is pending is carried out. -/
theorem loop_ends {l : Nat} {r : Loop} {W : World} (h : W.heap[l]? = some (.loop r)) (hb : r.state ≠ .busy) : ∃ W2, (Instr.endLoop l).run P W = .ok r.pending W2 ∧ Kp [l] W W2 :=
  ⟨_, run_endLoop h hb, (grown_kp (grownBy_putObj' W l _)).mono (by simp)⟩
/-- .. and at the function's end the block for the rounds' deferred calls. -/
theorem mark_taken {b : Nat} {W : World} (h : W.heap[b]? = some (.deferred (some []))) : ∃ W2, (Instr.takeDeferred b).run P W = .ok [] W2 ∧ Kp [b] W W2 :=
  ⟨_, run_takeDeferred h, (grown_kp (grownBy_putObj' W b _)).mono (by simp)⟩
end

end Go.Proofs.YtonnimbcekhbgaaGreatDoor
