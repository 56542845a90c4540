/- The finder: all ways of a place, one behind the other, and the lists change places. -/
import Derived.Test.YtanpiomfnbiilaaDoorGI
namespace Go.Proofs.YtanpiomfnbiilaaDoor
open Go.RowKit

/-- All ways of a place. What began behind the place of something found is cut. -/
def Sweep (cd : Nat → In) (n D : Nat) (text : ByteArray) (pl : Nat) : List Thr → Mc → Mc → Prop
  | [], s, s' => s' = s
  | t :: l, s, s' => (s.fd = true ∧ s.best 0 < t.x 0 ∧ s' = s) ∨ (¬ (s.fd = true ∧ s.best 0 < t.x 0) ∧ ∃ s1, Goes cd n D text pl (some t) s s1 ∧ Sweep cd n D text pl l s1 s')

theorem flat_at : ∀ (l : List Thr) (k : Nat) (t : Thr), l[k]? = some t → ∀ j, j < 22 → (flat l)[k * 22 + j]? = (tf t.pc t.tk t.x)[j]?
  | h :: l, 0, t, e, j, hj => by
    have e' : h = t := by simpa using e
    subst e'
    show (tf h.pc h.tk h.x ++ flat l)[0 * 22 + j]? = _
    rw [Nat.zero_mul, Nat.zero_add, List.getElem?_append_left hj]
  | h :: l, k + 1, t, e, j, hj => by
    have e' : l[k]? = some t := by simpa using e
    show (tf h.pc h.tk h.x ++ flat l)[(k + 1) * 22 + j]? = _
    rw [List.getElem?_append_right (by show 22 ≤ _; omega)]
    have := flat_at l k t e' j hj
    rwa [show (k + 1) * 22 + j - (tf h.pc h.tk h.x).length = k * 22 + j by show (k + 1) * 22 + j - 22 = _; omega]

section
variable {w W W' : World} {f p g c n D sb N Q V pl gh ch : Nat} {text : ByteArray} {here : List Thr} {v3 v4 v5 : Value} {s : Mc} {cd : Nat → In} {t : Thr}

/-- The lists change places. -/
theorem Fg.swap (h : Fg w W f p sb N pl text here (.slice (some ⟨gh, 0, none⟩) here.length ch) v4 v5 s) (q : Swapped f v4 (.slice (some ⟨gh, 0, none⟩) 0 ch) W W') :
    Fg w W' f p sb N pl text s.ahead v4 (.slice (some ⟨gh, 0, none⟩) 0 ch) v5 { s with ahead := [] } := by
  have cf := q.cell
  have ob : ∀ k, k < W.heap.size → k ≠ f → W'.heap[k]? = W.heap[k]? := fun k hk hkf => q.kept.block k hk (by simpa using hkf)
  have x3 := h.x3 gh rfl
  refine ⟨Kp.own (x := f) ((h.kp.mono (by simp)).trans q.kept) h.flo, h.flo, h.slo, h.ne, (cf _ (by omega) (by omega)).trans h.c0, (cf _ (by omega) (by omega)).trans h.c1, (cf _ (by omega) (by omega)).trans h.c2, q.c3, q.c4, (cf _ (by omega) (by omega)).trans h.c5, (cf _ (by omega) (by omega)).trans h.c6, (cf _ (by omega) (by omega)).trans h.c7, fun j u hu => (cf _ (by omega) (by omega)).trans (h.best j u hu), fun i => (q.free i).trans (h.free i), Nat.lt_of_lt_of_le h.slt q.kept.size, fun i hi => ?_,
    owns_of_block h.o4 (fun k hk hl => ob k hl (h.x4 k hk).1), owns_of_block (ownsRow_empty h.o3) (fun k hk hl => ob k hl ?_), owns_of_block h.o5 (fun k hk hl => ob k hl (h.x5 k hk).1), fun k hk => ?_, fun k hk => ?_, h.x5⟩
  · have r := h.seen i hi
    have e := ob sb h.slt h.ne
    exact ⟨(World.cell?_of_block (w := W) e).trans r.1, (World.frozen?_of_block (w := W) e).trans r.2⟩
  · have e : k = gh := by simpa [Value.ownBlock] using hk.symm
    rw [e]; exact x3.1
  · have r := h.x4 k hk
    refine ⟨r.1, r.2.1, fun e => ?_, r.2.2⟩
    have e : k = gh := by simpa [Value.ownBlock] using e.symm
    subst e
    exact x3.2.2.1 hk
  · have e : k = gh := by simpa [Value.ownBlock] using hk.symm
    subst e
    exact ⟨x3.1, x3.2.1, x3.2.2.2⟩

set_option maxRecDepth 100000 in
set_option maxHeartbeats 4000000 in
theorem goOn_any (h : Fg w W f p sb N pl text here v3 v4 v5 s) (hne : here ≠ []) (hl : s.left = []) (hcd : Cd w p g c n D cd) (hh : ∀ u ∈ here, okT n D u) (hs : OkM n D s) (hQ : Q = n * (D + 1)) (hV : V = pl * Q) (hN : (text.size + 1) * Q ≤ 64 * N) (hNb : N ≤ 1000000) (hb : Q ≤ 10000) (hpl : pl ≤ text.size) (hA : s.ahead.length ≤ 100) (hH : here.length ≤ 10000) :
    Calls Tryd.prog 31 #[.pointer (some ⟨f, 0, none⟩)] W fun e W' => e = .returned (.tuple #[]) ∧
      ∃ a4 b4 a5 s', Fg w W' f p sb N pl text s'.ahead a4 b4 a5 { s' with ahead := [] } ∧ s'.left = [] ∧ OkM n D s' ∧ s'.ahead.length ≤ s.ahead.length + Q ∧ Sweep cd n D text pl here s s' := by
  rcases own_form h.o3 with ⟨_, e⟩ | ⟨gh, ch, e3⟩
  · exact absurd (List.length_eq_zero_iff.1 e) hne
  subst e3
  have HF := hid h
  have HCD := hid hcd
  have HH := hid hh
  have HOK := hid hs
  have hu := uns_le s.sn V Q
  have HM := hid (And.intro hQ (And.intro hV hN))
  clear hQ hV hN
  have c3 := h.c3
  have hcap := row_cap h.o3
  obtain ⟨L, hL⟩ : ∃ L, here.length = L := ⟨_, rfl⟩
  rw [hL] at c3
  have hL2 : L ≤ 10000 := by omega
  have hLc : L ≤ ch := by omega
  clear h hcd hh hs
  go_enter Tryd.func31, Tryd.ntmps31
  go_wp2
  go_loopw [8] (fun v wr => ∃ k : Nat, k ≤ L ∧ v = .int .i64 k ∧ ∃ a4 a5 sk, Fg w wr f p sb N pl text here (.slice (some ⟨gh, 0, none⟩) here.length ch) a4 a5 sk ∧ sk.left = [] ∧ OkM n D sk ∧ sk.ahead.length + uns sk.sn V Q ≤ s.ahead.length + uns s.sn V Q ∧ Hid (∀ s', Sweep cd n D text pl (here.drop k) sk s' → Sweep cd n D text pl here s s')) (fun v _ => L - (intOf v).toNat)
  case atStart => exact ⟨0, by omega, rfl, v4, v5, s, HF.out, hl, HOK.out, by omega, hid (fun s' q => q)⟩
  case round =>
    obtain ⟨k, hk, rfl, a4, a5, sk, fg, lk, okk, bd, back⟩ := hrel
    have FG := hid fg
    have OKK := hid okk
    have d3 := fg.c3
    rw [hL] at d3
    have d4 := fg.c4
    have d7 := fg.c7
    have f3 := fg.free 3
    have f4 := fg.free 4
    obtain ⟨ao, an, ac, e4⟩ := slice_of fg.o4
    by_cases hlt : k < L
    · obtain ⟨t, et⟩ : ∃ t, here[k]? = some t := ⟨here[k]'(by omega), List.getElem?_eq_getElem (by omega)⟩
      have hd : here.drop k = t :: here.drop (k + 1) := by
        have hk' : k < here.length := by omega
        rw [List.drop_eq_getElem_cons hk']
        rw [List.getElem?_eq_getElem hk'] at et
        rw [Option.some.inj et]
      have hmem : t ∈ here := List.mem_of_getElem? et
      have r3 := row_at fg.o3
      have RG : Hid (wr.rangeAt gh (k * 22) (tf t.pc t.tk t.x)) := hid (fun j v hv => by
        have hj : j < 22 := (List.getElem?_eq_some_iff.1 hv).1
        have := r3 (k * 22 + j) v (by rw [flat_at here k t et j hj]; exact hv)
        rwa [Nat.zero_add] at this)
      have dn : wr.cell? ⟨gh, k * 22 + 2, none⟩ = some (.int .i64 (t.x 0)) := RG.out 2 _ rfl
      have db : wr.cell? ⟨f, 8, none⟩ = some (.int .i64 (sk.best 0)) := fg.best 0 _ rfl
      subst e4
      clear fg okk
      by_cases hcut : sk.fd = true ∧ sk.best 0 < t.x 0
      · obtain ⟨hfd, hx⟩ := hcut
        rw [hfd] at d7
        go_wp2_with fail
        go_quiet (fail)
        go_wp2_with fail
        go_region
        all_goals go_wp2
        all_goals go_end0
        all_goals
          have sw := swapped_of (v := .slice ao an ac) (u := .slice (some ⟨gh, 0, none⟩) 0 ch) (w := wr.drewN nq) d3 d4
          refine ⟨rfl, _, _, a5, sk, (FG.out.keep (Kp.drewN [] wr nq)).swap sw, lk, OKK.out, by omega, back.out sk ?_⟩
          rw [hd]
          exact .inl ⟨hfd, hx, rfl⟩
      · cases hfd : sk.fd with
        | false =>
          rw [hfd] at d7
          go_wp2_with fail
          go_quiet (fail)
          have kq := Kp.drewN [] wr nq
          have RQ := hid (rangeAt_keep RG.out kq (by simp))
          have FQ := hid (FG.out.keep kq)
          have q3 : (wr.drewN nq).cell? ⟨f, 3, none⟩ = some (.slice (some ⟨gh, 0, none⟩) L ch) := d3
          generalize wr.drewN nq = w1 at *
          clear d3 d4 d7 f3 f4 dn db r3
          go_wp2_with (first | (refine wpList_load_mid rfl 88 (.tmp 38) rfl gh (k * 22) rfl (tf t.pc t.tk t.x) _ RQ.out Tryd.underlying88 rfl Tryd.szThread ?_) | fail)
          refine (follow_any FQ.out lk HCD.out (HH.out t hmem) OKK.out HM.out.1 HM.out.2.1 HM.out.2.2 hNb (by omega) hpl (by omega)).mono ?_
          rintro e w2 ⟨rfl, b4, b5, s2, fg2, l2, ok2, bd2, goes⟩
          have F2 := hid (And.intro fg2 (And.intro ok2 goes))
          clear fg2 ok2 goes q3
          go_wp2_with fail
          exact ⟨⟨k + 1, by omega, by go_num, b4, b5, s2, F2.out.1, l2, F2.out.2.1, by omega, hid (fun s' q => back.out s' (by rw [hd]; exact .inr ⟨hcut, s2, F2.out.2.2, q⟩))⟩, by simp [intOf]; omega⟩
        | true =>
          rw [hfd] at d7
          have hx : ¬ sk.best 0 < t.x 0 := fun q => hcut ⟨hfd, q⟩
          go_wp2_with fail
          go_quiet (fail)
          have kq := Kp.drewN [] wr nq
          have RQ := hid (rangeAt_keep RG.out kq (by simp))
          have FQ := hid (FG.out.keep kq)
          have q3 : (wr.drewN nq).cell? ⟨f, 3, none⟩ = some (.slice (some ⟨gh, 0, none⟩) L ch) := d3
          generalize wr.drewN nq = w1 at *
          clear d3 d4 d7 f3 f4 dn db r3
          go_wp2_with (first | (refine wpList_load_mid rfl 88 (.tmp 38) rfl gh (k * 22) rfl (tf t.pc t.tk t.x) _ RQ.out Tryd.underlying88 rfl Tryd.szThread ?_) | fail)
          refine (follow_any FQ.out lk HCD.out (HH.out t hmem) OKK.out HM.out.1 HM.out.2.1 HM.out.2.2 hNb (by omega) hpl (by omega)).mono ?_
          rintro e w2 ⟨rfl, b4, b5, s2, fg2, l2, ok2, bd2, goes⟩
          have F2 := hid (And.intro fg2 (And.intro ok2 goes))
          clear fg2 ok2 goes q3
          go_wp2_with fail
          exact ⟨⟨k + 1, by omega, by go_num, b4, b5, s2, F2.out.1, l2, F2.out.2.1, by omega, hid (fun s' q => back.out s' (by rw [hd]; exact .inr ⟨hcut, s2, F2.out.2.2, q⟩))⟩, by simp [intOf]; omega⟩
    · subst e4
      clear fg okk
      have hkL : k = L := by omega
      go_wp2_with fail
      go_region
      all_goals go_wp2
      all_goals go_end0
      all_goals
        have sw := swapped_of (v := .slice ao an ac) (u := .slice (some ⟨gh, 0, none⟩) 0 ch) (w := wr) d3 d4
        refine ⟨rfl, _, _, a5, sk, (FG.out).swap sw, lk, OKK.out, by omega, back.out sk ?_⟩
        rw [List.drop_eq_nil_of_le (by omega)]
        exact rfl
end
end Go.Proofs.YtanpiomfnbiilaaDoor
