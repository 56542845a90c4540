/- One text out of several: Zb Zs YA YB YC. -/
import Derived.Test.YtanpiomfnbiilaaDoorRows
import Derived.Test.YtanpiomfnbiilaaDoorM
import Derived.WalkLawsBesides
import Derived.Test.YtanpiomfnbiilaaDoorZc
import Derived.ProofKit
import Derived.LaidMore
import Derived.Lay
import Derived.OpenShut
import Derived.Stop.Joined
import Derived.Test.YtanpiomfnbiilaaDoorTA
import Derived.Carry
import Derived.ChangeMaps5
import Derived.Deep.Cut
import Derived.Deep.CutRange
import Derived.Deep.CutBlock

/- Which of n things a raw number speaks of. -/
namespace Go.Proofs.YtanpiomfnbiilaaDoor
open Go.RowKit

/-- pick, as a number. -/
def pk (c n : Int) : Int := (if c < 0 then -(c + 1) else c) % n
theorem pk_bd (c n : Int) (h : 0 < n) : 0 ≤ pk c n ∧ pk c n < n := ⟨Int.emod_nonneg _ (by omega), Int.emod_lt_of_pos _ h⟩

theorem ret_i64 {a b : Int} (h : a = b) : Ending.returned (.int .i64 a) = .returned (.int .i64 b) := by rw [h]

set_option maxHeartbeats 400000 in
theorem pick_any (c n : Int) (h1 : -9223372036854775808 ≤ c) (h2 : c ≤ 9223372036854775807) (h3 : 0 < n) (h4 : n ≤ 1099511627776) (w : World) :
    Calls Tryd.prog 8 #[.int .i64 c, .int .i64 n] w fun e w' => e = .returned (.int .i64 (pk c n)) ∧ w' = w := by
  by_cases hc : c < 0
  · have hn : ¬ n = 0 := by omega
    go_enter Tryd.func8, Tryd.ntmps8
    go_wp2
    go_ret
    refine ⟨?_, rfl⟩
    refine ret_i64 ?_
    unfold pk
    rw [if_pos hc, ← Int.neg_tmod, Int.tmod_eq_emod_of_nonneg (by omega)]
  · have hn : ¬ n = 0 := by omega
    go_enter Tryd.func8, Tryd.ntmps8
    go_wp2
    go_ret
    refine ⟨?_, rfl⟩
    refine ret_i64 ?_
    unfold pk
    rw [if_neg (by omega)]
end Go.Proofs.YtanpiomfnbiilaaDoor

/- The table of the classes' names, out of the premise on the start. -/
namespace Go.Proofs.YtanpiomfnbiilaaDoor
open Go.ChangeShapes Go.WideShapes Go.ChangeAt Go.RowKit

theorem own0 : ownKnob Tryd.prog.godebug = none := by kernel_rfl
theorem gNames : Tryd.prog.globalNamed "ribbon/pattern.names" = some 0 := by kernel_rfl
theorem at_take {l : List Value} {k j : Nat} {v : Value} (h : (((l.drop k).take 2).drop j).take 1 = [v]) (hj : j < 2) : l[k + j]? = some v := by
  have h2 := congrArg (fun x => x[0]?) h
  simp only [List.getElem?_take, List.getElem?_drop, Nat.add_zero, List.getElem?_cons_zero] at h2
  rw [if_pos (by omega), if_pos hj] at h2
  exact h2

theorem bytes_eq {s : ByteArray} {l : List UInt8} (h : s.data.toList = l) : s = ⟨l.toArray⟩ := by
  cases s; subst h; simp
theorem wf_i64 {n : Int} (h : (Lit.int .i64 n).wf = true) : -9223372036854775808 ≤ n ∧ n ≤ 9223372036854775807 := by
  simp only [Lit.wf, Bool.and_eq_true, decide_eq_true_eq] at h
  exact ⟨h.1, h.2⟩

theorem uEntry : ∃ fs : Array Field, Tryd.prog.underlying 122 = some (.struct fs) ∧ ∃ f0 f1, fs[0]? = some f0 ∧ fs[1]? = some f1 ∧ fs.size = 2 ∧ f0.type = 9 ∧ f0.offset = 0 ∧ f1.type = 9 ∧ f1.offset = 1 :=
  ⟨_, Tryd.underlying122, _, _, rfl, rfl, rfl, rfl, rfl, rfl, rfl⟩

abbrev laidT : List (String × DataW Unit) := [("ribbon/pattern.names", Rows.laid_ribbon_pattern_names)]

/-- The two texts of an entry of the table, out of the premise on the start. -/
theorem entry_of {W : World} (h : laidMetH Tryd.prog laidT W) : ∀ i, i < 7 → ∃ s t : ByteArray, W.cell? ⟨0, i * 2, none⟩ = some (.string s) ∧ W.cell? ⟨0, i * 2 + 1, none⟩ = some (.string t) ∧
    (match (Rows.laid_ribbon_pattern_names : DataW Unit) with | .agg l => l | _ => [])[i]? = some (.agg [.lit (.string s.data.toList), .lit (.string t.data.toList)]) := by
  rw [MakeChecks.laidMetH_plain _ _ _ (by kernel_rfl)] at h
  obtain ⟨ps, ⟨g, t, cs, fuel, p, q, hg, ht, hv, hd, _, _⟩, _, _⟩ := h
  obtain rfl := Option.some.inj (gNames.symm.trans hg)
  obtain rfl := Option.some.inj ((show (Tryd.prog.globals[0]?).map (·.type) = some 123 by kernel_rfl).symm.trans ht)
  obtain ⟨xs, m, _, ex, _, hl, hel⟩ := DataW.trod_array Tryd.underlying123 hd
  have c2 : Tryd.prog.cellsOf 122 = 2 := by kernel_rfl
  have c1 : Tryd.prog.cellsOf 9 = 1 := by kernel_rfl
  have us : Tryd.prog.underlying 9 = some .string := by kernel_rfl
  obtain ⟨fs, ufs, f0, f1, e0, e1, esz, t0, o0, t1, o1⟩ := uEntry
  intro i hi
  have hE := hel i hi
  rw [c2, List.getElem?_eq_getElem (by omega)] at hE
  obtain ⟨ys, n, _, ey, _, hyl, hys⟩ := DataW.trod_struct ufs hE
  rw [esz] at hyl
  have h0 := hys 0 f0 e0
  have h1 := hys 1 f1 e1
  rw [t0, o0, c1, List.getElem?_eq_getElem (by omega)] at h0
  rw [t1, o1, c1, List.getElem?_eq_getElem (by omega)] at h1
  obtain ⟨s, es, es', _⟩ := DataW.trod_string us h0
  obtain ⟨u, eu, eu', _⟩ := DataW.trod_string us h1
  have d0 := at_take es (by omega)
  have d1 := at_take eu (by omega)
  refine ⟨s, u, ?_, ?_, ?_⟩
  · rw [World.var?_cell hg hv]; simpa using d0
  · rw [World.var?_cell hg hv]; simpa using d1
  · have e3 : (xs.map (·.1))[i]? = some (.agg (ys.map (·.1))) := by rw [List.getElem?_map, List.getElem?_eq_getElem (by omega : i < xs.length), ey]; rfl
    have e4 : (Rows.laid_ribbon_pattern_names : DataW Unit) = .agg (xs.map (·.1)) := (Prod.mk.inj ex).1
    rw [e4]
    show (xs.map (·.1))[i]? = _
    rw [e3]
    match ys, hyl, es', eu' with
    | [y0, y1], _, es', eu' =>
      have a0 : y0 = _ := es'
      have a1 : y1 = _ := eu'
      rw [a0, a1]; rfl

theorem nm_of {W : World} (h : laidMetH Tryd.prog laidT W) : Nm W := by
  have key := entry_of h
  have all : ∀ i, i < 7 → W.cell? ⟨0, i * 2, none⟩ = some (.string (nmN i)) ∧ W.cell? ⟨0, i * 2 + 1, none⟩ = some (.string (nmS i)) := by
    intro i hi
    obtain ⟨s, t, h1, h2, h3⟩ := key i hi
    match i, hi with
    | 0, _ | 1, _ | 2, _ | 3, _ | 4, _ | 5, _ | 6, _ =>
      simp only [Rows.laid_ribbon_pattern_names, List.getElem?_cons_zero, List.getElem?_cons_succ, Option.some.injEq, DataW.agg.injEq, List.cons.injEq, DataW.lit.injEq, Lit.string.injEq, and_true] at h3
      rw [h1, h2, bytes_eq h3.1.symm, bytes_eq h3.2.symm]
      exact ⟨rfl, rfl⟩
  exact ⟨World.block_lt_of_cell? _ _ (all 0 (by omega)).1, fun i hi => (all i hi).1, fun i hi => (all i hi).2⟩

end Go.Proofs.YtanpiomfnbiilaaDoor

/- Words: what a pattern of some words says of a text. Pure. -/
namespace Go.Proofs.YtanpiomfnbiilaaDoor
open Go.RowKit

/-- The word W stands at place i. -/
def Stn (t : List UInt8) (i : Nat) (W : List UInt8) : Prop := W <+: t.drop i
theorem stn_cons {t W : List UInt8} {i : Nat} {c : UInt8} : Stn t i (c :: W) ↔ t[i]? = some c ∧ Stn t (i + 1) W := by
  unfold Stn
  rw [List.cons_prefix_iff]
  constructor
  · rintro ⟨r, h1, h2⟩
    refine ⟨?_, ?_⟩
    · have : (t.drop i)[0]? = some c := by rw [h1]; rfl
      rwa [List.getElem?_drop, Nat.add_zero] at this
    · rw [← List.drop_drop, h1]; exact h2
  · rintro ⟨h1, h2⟩
    obtain ⟨hl, hv⟩ := List.getElem?_eq_some_iff.1 h1
    exact ⟨t.drop (i + 1), by rw [List.drop_eq_getElem_cons hl, hv], h2⟩
theorem Stn.le {t W : List UInt8} {i : Nat} (h : Stn t i W) (hW : W ≠ []) : i + W.length ≤ t.length := by
  have := h.length_le
  rw [List.length_drop] at this
  have : 0 < W.length := List.length_pos_iff.2 hW
  omega
theorem standsB_iff (s v : ByteArray) (i : Nat) (hv : v.data.toList ≠ []) : standsB s v i = true ↔ Stn s.data.toList i v.data.toList := by
  have hvl : v.data.toList.length = v.size := rfl
  have hsl : s.data.toList.length = s.size := rfl
  unfold standsB Stn
  rw [Bool.and_eq_true, decide_eq_true_eq, toList_data, toList_data, beq_iff_eq, ByteArray.data_extract, Array.toList_extract, List.extract_eq_take_drop, Nat.add_sub_cancel_left, List.prefix_iff_eq_take, hvl]
  constructor
  · rintro ⟨_, h⟩; exact h.symm
  · intro h
    refine ⟨?_, h.symm⟩
    have := congrArg List.length h
    rw [List.length_take, List.length_drop, hsl, hvl] at this
    have : 0 < v.data.toList.length := List.length_pos_iff.2 hv
    omega

section
variable {text : ByteArray} {d i tk j tk' : Nat} {x x' : Nat → Int}
/-- A word's bytes. -/
abbrev wordM (text : ByteArray) (W : List UInt8) : List (Nat → Rl) := W.map fun c => mOne text (span noBytes c.toNat (c.toNat + 1))
theorem bt_some {c : UInt8} : Bt text i c.toNat ↔ text.data.toList[i]? = some c := by
  rw [bt_iff]
  constructor
  · rintro ⟨u, h, e⟩
    rw [UInt8.toNat_inj.1 e] at h; exact h
  · intro h
    exact ⟨c, h, rfl⟩
theorem word_iff (W : List UInt8) : mRowF (wordM text W) d i tk x j tk' x' ↔ Stn text.data.toList i W ∧ j = i + W.length ∧ tk' = (if W = [] then tk else d) ∧ x' = x := by
  induction W generalizing i tk x with
  | nil =>
    show (j = i ∧ tk' = tk ∧ x' = x) ↔ _
    simp [Stn]
  | cons c W ih =>
    show mSeq (mOne text (span noBytes c.toNat (c.toNat + 1)) d) (mRowF (wordM text W) d) i tk x j tk' x' ↔ _
    rw [stn_cons]
    constructor
    · rintro ⟨i1, t1, x1, h1, h2⟩
      rw [mOne_iff, bt_some] at h1
      rw [ih] at h2
      obtain ⟨a1, rfl, rfl, rfl⟩ := h1
      obtain ⟨b1, rfl, h, rfl⟩ := h2
      refine ⟨⟨a1, b1⟩, by rw [List.length_cons]; omega, ?_, rfl⟩
      rw [h]; split <;> simp
    · rintro ⟨⟨a1, a2⟩, rfl, h, rfl⟩
      refine ⟨i + 1, d, x', mOne_iff.2 ⟨bt_some.2 a1, rfl, rfl, rfl⟩, ih.2 ⟨a2, by rw [List.length_cons]; omega, ?_, rfl⟩⟩
      rw [h]; simp

/-- Some words. -/
abbrev wordsM (text : ByteArray) (ws : List (List UInt8)) : List (Nat → Rl) := ws.map fun W => mRowF (wordM text W)
theorem words_iff (ws : List (List UInt8)) : mAny (wordsM text ws) d i tk x j tk' x' ↔ ∃ W ∈ ws, Stn text.data.toList i W ∧ j = i + W.length ∧ tk' = (if W = [] then tk else d) ∧ x' = x := by
  constructor
  · rintro ⟨m, hm, h⟩
    obtain ⟨W, hW, rfl⟩ := List.mem_map.1 hm
    exact ⟨W, hW, (word_iff W).1 h⟩
  · rintro ⟨W, hW, h⟩
    exact ⟨_, List.mem_map.2 ⟨W, hW, rfl⟩, (word_iff W).2 h⟩
end

/-- A word: of few letters, one at least. -/
def Wrd (W : List UInt8) : Prop := W ≠ [] ∧ W.length ≤ 5 ∧ ∀ u ∈ W, u = 97 ∨ u = 98 ∨ u = 99
/-- Where the first of the longest of some words stands, or -1. -/
def Fst (t : List UInt8) (ws : List (List UInt8)) (fr tz : Int) : Prop :=
  ((∀ i, ∀ W ∈ ws, ¬ Stn t i W) ∧ fr = -1) ∨
  (∃ a j : Nat, fr = a ∧ tz = j ∧ a ≤ t.length ∧ (∃ W ∈ ws, Stn t a W ∧ j = a + W.length) ∧ ∀ i, ∀ W ∈ ws, Stn t i W → a ≤ i ∧ (a = i → i + W.length ≤ j))
theorem says_words {text : ByteArray} {ws : List (List UInt8)} {fr tz : Int} (h : Fst text.data.toList ws fr tz) : SaysN text (mAny (wordsM text ws) 0) fr tz := by
  rcases h with ⟨h, rfl⟩ | ⟨a, j, rfl, rfl, ha, ⟨W, hW, hs, hj⟩, hb⟩
  · refine says_none (fun a j tk x hm => ?_) (by omega)
    obtain ⟨W, hW, hs, _⟩ := (words_iff ws).1 hm
    exact h a W hW hs
  · refine says_found (P := fun i j => ∃ W ∈ ws, Stn text.data.toList i W ∧ j = i + W.length) (fun i j tk x hm => ?_) ⟨_, _, (words_iff ws).2 ⟨W, hW, hs, hj, rfl, rfl⟩⟩ (by rw [size_list]; exact ha) ?_
    · obtain ⟨W, hW, hs, hj, _⟩ := (words_iff ws).1 hm
      exact ⟨W, hW, hs, hj⟩
    · rintro i j' ⟨W', hW', hs', rfl⟩
      obtain ⟨q1, q2⟩ := hb i W' hW' hs'
      exact ⟨q1, fun e => by have := q2 e; omega⟩

/-- A text of letters, and an x behind it. -/
theorem stn_x {t W : List UInt8} {i : Nat} (hW : Wrd W) : Stn (t ++ [120]) i W ↔ Stn t i W := by
  obtain ⟨h0, _, hl⟩ := hW
  constructor
  · intro h
    have hle := h.le h0
    rw [List.length_append, List.length_singleton] at hle
    have hlt : i + W.length ≤ t.length := by
      by_cases e : i + W.length ≤ t.length
      · exact e
      · exfalso
        have e2 : i + W.length = t.length + 1 := by omega
        have hp : 0 < W.length := List.length_pos_iff.2 h0
        unfold Stn at h
        rw [List.prefix_iff_eq_take] at h
        have hq : W[W.length - 1]? = some 120 := by
          rw [h, List.getElem?_take, if_pos (by rw [← h]; omega), List.getElem?_drop, ← h, show i + (W.length - 1) = t.length by omega]
          simp
        have := hl 120 (List.mem_of_getElem? hq)
        revert this; decide
    unfold Stn at h ⊢
    rw [List.drop_append_of_le_length (by omega)] at h
    rw [List.prefix_iff_eq_take] at h ⊢
    rw [List.take_append_of_le_length (by rw [List.length_drop]; omega)] at h
    exact h
  · intro h
    have hle := h.le h0
    unfold Stn at h ⊢
    rw [List.drop_append_of_le_length (by omega)]
    exact h.trans (List.prefix_append _ _)
theorem stn_xx {t : List UInt8} (ht : ∀ u ∈ t, u ≠ 120) {i : Nat} : Stn (t ++ [120]) i [120] ↔ i = t.length := by
  rw [stn_cons]
  constructor
  · rintro ⟨h, _⟩
    by_cases e : i < t.length
    · rw [List.getElem?_append_left e] at h
      exact absurd rfl (ht 120 (List.mem_of_getElem? h))
    · obtain ⟨hl, _⟩ := List.getElem?_eq_some_iff.1 h
      rw [List.length_append, List.length_singleton] at hl
      omega
  · rintro rfl
    exact ⟨by simp, List.nil_prefix⟩
theorem fst_x {t : List UInt8} {ws : List (List UInt8)} (ht : ∀ u ∈ t, u ≠ 120) (hws : ∀ W ∈ ws, Wrd W) {fr tz : Int} (h : Fst t ws fr tz) (hfr : 0 ≤ fr) : Fst (t ++ [120]) (ws ++ [[120]]) fr tz := by
  rcases h with ⟨h, rfl⟩ | ⟨a, j, rfl, rfl, ha, ⟨W, hW, hs, hj⟩, hb⟩
  · omega
  · refine .inr ⟨a, j, rfl, rfl, by rw [List.length_append]; omega, ⟨W, by simp [hW], (stn_x (hws W hW)).2 hs, hj⟩, fun i W' hW' hs' => ?_⟩
    have hlt : a < t.length := by
      have := hs.le (hws W hW).1
      have : 0 < W.length := List.length_pos_iff.2 (hws W hW).1
      omega
    rcases List.mem_append.1 hW' with q | q
    · exact hb i W' q ((stn_x (hws W' q)).1 hs')
    · rw [List.mem_singleton.1 q] at hs'
      have := (stn_xx ht).1 hs'
      exact ⟨by omega, fun e => by omega⟩
theorem fst_none {t : List UInt8} {ws : List (List UInt8)} (ht : ∀ u ∈ t, u ≠ 120) (hws : ∀ W ∈ ws, Wrd W) {fr tz : Int} (h : Fst t ws fr tz) (hfr : fr < 0) : Fst (t ++ [120]) (ws ++ [[120]]) t.length ((t.length : Int) + 1) := by
  rcases h with ⟨h, rfl⟩ | ⟨a, j, rfl, _⟩
  · refine .inr ⟨t.length, t.length + 1, rfl, by omega, by rw [List.length_append]; omega, ⟨[120], by simp, (stn_xx ht).2 rfl, rfl⟩, fun i W' hW' hs' => ?_⟩
    rcases List.mem_append.1 hW' with q | q
    · exact absurd ((stn_x (hws W' q)).1 hs') (h i W' q)
    · rw [List.mem_singleton.1 q] at hs' ⊢
      have := (stn_xx ht).1 hs'
      exact ⟨by omega, fun e => by simp; omega⟩
  · omega

/-- A row of words, noted: ^(words)+$ -/
abbrev grpM (text : ByteArray) (ws : List (List UInt8)) : Nat → Rl := fun d => mGroup 1 (mAny (wordsM text ws) d)
section
variable {text : ByteArray} {ws : List (List UInt8)} {d i tk j tk' : Nat} {x x' : Nat → Int}
theorem grp_iff : grpM text ws d i tk x j tk' x' ↔ ∃ W ∈ ws, Stn text.data.toList i W ∧ j = i + W.length ∧ tk' = (if W = [] then tk else d) ∧ x' = nu (nu x 2 i) 3 (j : Int) := by
  constructor
  · rintro ⟨x2, h, rfl⟩
    rw [words_iff] at h
    obtain ⟨W, hW, hs, hj, ht, rfl⟩ := h
    exact ⟨W, hW, hs, hj, ht, rfl⟩
  · rintro ⟨W, hW, hs, hj, ht, rfl⟩
    exact ⟨_, (words_iff ws).2 ⟨W, hW, hs, hj, ht, rfl⟩, rfl⟩
theorem grp_note (hws : ∀ W ∈ ws, Wrd W) (h : grpM text ws d i tk x j tk' x') : x' 3 = (j : Int) ∧ x' 2 < x' 3 := by
  rw [grp_iff] at h
  obtain ⟨W, hW, _, hj, _, rfl⟩ := h
  have : 0 < W.length := List.length_pos_iff.2 (hws W hW).1
  simp only [nu]
  simp
  omega
theorem turns_note (hws : ∀ W ∈ ws, Wrd W) (h : mTurns (grpM text ws (d + 1)) d i tk x j tk' x') (h0 : x 3 = (i : Int) ∧ x 2 < x 3) : x' 3 = (j : Int) ∧ x' 2 < x' 3 := by
  induction h with
  | stop => exact h0
  | turn h _ _ ih => exact ih (grp_note hws h)
end
theorem best_words {text : ByteArray} {W0 : List UInt8} {ws : List (List UInt8)} (hws : ∀ W ∈ ws, Wrd W) (h0 : W0 ∈ ws) (ht : text.data.toList = W0 ++ W0) {s : Mc} (hB : Best text (mRowF [fun _ => mEdge text 1, mRep (grpM text ws) 1 none, fun _ => mEdge text 2] 0) s) :
    s.fd = true ∧ s.best 1 = ((2 * W0.length : Nat) : Int) ∧ s.best 3 = ((2 * W0.length : Nat) : Int) ∧ s.best 2 < s.best 3 := by
  have hz : text.size = 2 * W0.length := by rw [size_list, ht, List.length_append]; omega
  have hW0 := (hws W0 h0).1
  have hs : ∀ a j tk x, mRowF [fun _ => mEdge text 1, mRep (grpM text ws) 1 none, fun _ => mEdge text 2] 0 a 0 (nz a) j tk x → j = text.size ∧ x 3 = (j : Int) ∧ x 2 < x 3 := fun a j tk x hm => by
    obtain ⟨i1, t1, x1, ⟨c1, rfl, rfl, rfl⟩, i2, t2, x2, ⟨i3, t3, x3, m3, m4⟩, i5, t5, x5, ⟨c5, rfl, rfl, rfl⟩, rfl, rfl, rfl⟩ := hm
    obtain ⟨i6, t6, x6, ⟨rfl, rfl, rfl⟩, m3⟩ := m3
    have n1 := turns_note hws m4 (grp_note hws m3)
    refine ⟨?_, n1⟩
    rcases c5 with ⟨h, _⟩ | ⟨_, h⟩
    · omega
    · exact h
  have hc : ∃ tk x, mRowF [fun _ => mEdge text 1, mRep (grpM text ws) 1 none, fun _ => mEdge text 2] 0 0 0 (nz (0 : Nat)) (2 * W0.length) tk x := by
    have s1 : Stn text.data.toList 0 W0 := by unfold Stn; rw [ht, List.drop_zero]; exact List.prefix_append _ _
    have s2 : Stn text.data.toList (0 + W0.length) W0 := by unfold Stn; rw [ht, Nat.zero_add, List.drop_left]; exact List.prefix_refl _
    have g1 := (grp_iff (text := text) (ws := ws) (d := 0) (i := 0) (tk := 0) (x := nz (0 : Nat))).2 ⟨W0, h0, s1, rfl, rfl, rfl⟩
    have g2 := (grp_iff (text := text) (ws := ws) (d := 0 + 1) (i := 0 + W0.length) (tk := if W0 = [] then 0 else 0) (x := nu (nu (nz (0 : Nat)) 2 ((0 : Nat) : Int)) 3 ((0 + W0.length : Nat) : Int))).2 ⟨W0, h0, s2, rfl, rfl, rfl⟩
    have r := mTurns.turn (d := 0) g2 (by rw [if_neg hW0]; omega) .stop
    have e : 0 + W0.length + W0.length = 2 * W0.length := by omega
    rw [e] at r
    exact ⟨_, _, 0, 0, nz (0 : Nat), ⟨.inl ⟨rfl, rfl⟩, rfl, rfl, rfl⟩, 2 * W0.length, _, _, ⟨0 + W0.length, _, _, ⟨_, _, _, ⟨rfl, rfl, rfl⟩, g1⟩, r⟩, 2 * W0.length, _, _, ⟨.inr ⟨rfl, hz.symm⟩, rfl, rfl, rfl⟩, rfl, rfl, rfl⟩
  rcases hB with ⟨hf, h⟩ | ⟨hf, a', j, tk, x, ha, hm, hbest, hx0, hmax⟩
  · obtain ⟨t, x, q⟩ := hc
    exact absurd q (h 0 _ t x (by omega))
  · obtain ⟨hj, n1, n2⟩ := hs _ _ _ _ hm
    rw [hbest]
    simp only [nu]
    refine ⟨hf, ?_, ?_, ?_⟩
    · simp; omega
    · simp; omega
    · simp; exact n2

/-- Some words with | between them. -/
def patL : List (List UInt8) → List UInt8
  | [] => []
  | W :: ws => W ++ ws.flatMap (fun V => 124 :: V)
theorem patL_snoc (ws : List (List UInt8)) (hws : ws ≠ []) (W : List UInt8) : patL (ws ++ [W]) = patL ws ++ 124 :: W := by
  obtain ⟨V, l, rfl⟩ := List.exists_cons_of_ne_nil hws
  show V ++ (l ++ [W]).flatMap _ = (V ++ l.flatMap _) ++ 124 :: W
  rw [List.flatMap_append, List.append_assoc]
  simp

abbrev wordP (W : List UInt8) : Pi := piRow (W.map piB)
abbrev wordsP (ws : List (List UInt8)) : Pi := piBranches (ws.map wordP)
/-- What ends a branch. -/
def endH (s : List UInt8) : Prop := s = [] ∨ isH s 124 = true ∨ isH s 41 = true
theorem endH_good {s : List UInt8} (h : endH s) : goodHead s.head? = true := by
  rcases h with rfl | h | h
  · rfl
  · cases s with
    | nil => rfl
    | cons c s => have h : c.toNat = 124 := by simpa [isH] using h
                  simp [goodHead, h]
  · cases s with
    | nil => rfl
    | cons c s => have h : c.toNat = 41 := by simpa [isH] using h
                  simp [goodHead, h]
/-- A byte that may stand in a word. -/
def lett (c : UInt8) : Prop := isSpec c = false ∧ c ≠ 10
theorem lett_of {c : UInt8} (h : c = 97 ∨ c = 98 ∨ c = 99 ∨ c = 120) : lett c := by
  unfold lett
  rcases h with rfl | rfl | rfl | rfl <;> decide +kernel
theorem rowL_word {s : List UInt8} {g : Nat} (he : endH s) : ∀ W : List UInt8, (∀ u ∈ W, lett u) → RowL s g (W ++ s) g (W.map piB)
  | [], _ => ⟨rfl, rfl, he⟩
  | c :: W, h => by
    have hc := h c (by simp)
    obtain ⟨pf, _⟩ := plain_of hc.1 hc.2
    have no : ∀ y : Nat, c.toNat ≠ y → isH (c :: W ++ s) y = false := fun y hy => by simpa [isH] using hy
    refine ⟨by simp, no 124 (by omega), no 41 (by omega), W ++ s, g, ?_, rowL_word he W (fun u hu => h u (by simp [hu]))⟩
    have hg : goodHead (W ++ s).head? = true := by
      match W, h with
      | [], _ => exact endH_good he
      | e :: W, h =>
        have he := h e (by simp)
        obtain ⟨pe, _⟩ := plain_of he.1 he.2
        simp [goodHead, pe]
    exact pieceL_atom (f := id) (no 94 (by omega)) (no 36 (by omega)) (atomL_byte hc.1 hc.2) (repL_no hg)
theorem branchL_word {s W : List UInt8} {g : Nat} (he : endH s) (h : ∀ u ∈ W, lett u) (hl : W.length ≤ 5) : BranchL (W ++ s) s g g (wordP W) :=
  branchL_row (rowL_word he W h) (by rw [List.length_map]; omega)
theorem brsL_words {s : List UInt8} {g : Nat} (he : endH s) (h124 : isH s 124 = false) : ∀ ws : List (List UInt8), (∀ W ∈ ws, (∀ u ∈ W, lett u) ∧ W.length ≤ 5) → BrsL s g (ws.flatMap (fun V => 124 :: V) ++ s) g (ws.map wordP)
  | [], _ => ⟨rfl, rfl, h124⟩
  | W :: ws, h => by
    obtain ⟨h1, h2⟩ := h W (by simp)
    refine ⟨W ++ (ws.flatMap (fun V => 124 :: V) ++ s), ws.flatMap (fun V => 124 :: V) ++ s, g, by simp, branchL_word ?_ h1 h2, brsL_words he h124 ws (fun V hV => h V (by simp [hV]))⟩
    cases ws with
    | nil => exact he
    | cons V ws => exact .inr (.inl rfl)
theorem branchesL_words {s : List UInt8} {g : Nat} (he : endH s) (h124 : isH s 124 = false) (ws : List (List UInt8)) (hne : ws ≠ []) (h : ∀ W ∈ ws, (∀ u ∈ W, lett u) ∧ W.length ≤ 5) (hl : ws.length ≤ 50) : BranchesL (patL ws ++ s) s g g (wordsP ws) := by
  obtain ⟨W, ws, rfl⟩ := List.exists_cons_of_ne_nil hne
  obtain ⟨h1, h2⟩ := h W (by simp)
  have hb := brsL_words (g := g) he h124 ws (fun V hV => h V (by simp [hV]))
  have h0 : BranchL (W ++ (ws.flatMap (fun V => 124 :: V) ++ s)) (ws.flatMap (fun V => 124 :: V) ++ s) g g (wordP W) := by
    refine branchL_word ?_ h1 h2
    cases ws with
    | nil => exact he
    | cons V ws => exact .inr (.inl rfl)
  have := branchesL_all h0 hb (by rw [List.length_map]; simp at hl; omega)
  rw [show patL (W :: ws) ++ s = W ++ (ws.flatMap (fun V => 124 :: V) ++ s) by show (W ++ _) ++ s = _; rw [List.append_assoc]]
  exact this

theorem smP_word (text : ByteArray) (W : List UInt8) : SmP text (wordP W) (mRowF (wordM text W)) := by
  have := smP_row (text := text) (W.map fun c => (piB c, mOne text (span noBytes c.toNat (c.toNat + 1)))) (fun p hp => by
    obtain ⟨c, _, rfl⟩ := List.mem_map.1 hp
    exact smP_one _)
  rw [List.map_map, List.map_map] at this
  exact this
theorem smP_words (text : ByteArray) (ws : List (List UInt8)) (hne : ws ≠ []) : SmP text (wordsP ws) (mAny (wordsM text ws)) := by
  have := smP_branches (text := text) (ws.map fun W => (wordP W, mRowF (wordM text W))) (by simpa using hne) (fun p hp => by
    obtain ⟨W, _, rfl⟩ := List.mem_map.1 hp
    exact smP_word text W)
  rw [List.map_map, List.map_map] at this
  exact this

/-- How great a pattern of words is. -/
theorem wordP_facts (W : List UInt8) (h : W.length ≤ 5) : (wordP W).sz = W.length ∧ (wordP W).len = W.length ∧ (wordP W).dd = 0 := by
  have h1 : ∀ W : List UInt8, szL ((W.map piB).map Pi.it) = W.length := fun W => by
    induction W with
    | nil => rfl
    | cons c W ih => show 1 + szL ((W.map piB).map Pi.it) = W.length + 1; rw [ih]; omega
  have h2 : ∀ W : List UInt8, lenL ((W.map piB).map Pi.it) = W.length := fun W => by
    induction W with
    | nil => rfl
    | cons c W ih => show 1 + lenL ((W.map piB).map Pi.it) = W.length + 1; rw [ih]; omega
  have h3 : ∀ W : List UInt8, ddL ((W.map piB).map Pi.it) = 0 := fun W => by
    induction W with
    | nil => rfl
    | cons c W ih => show max 0 (ddL ((W.map piB).map Pi.it)) = 0; rw [ih]; rfl
  refine ⟨?_, h2 W, h3 W⟩
  show min (szL ((W.map piB).map Pi.it)) 301 = W.length
  rw [h1]; omega
theorem wordsP_facts (ws : List (List UInt8)) (h : ∀ W ∈ ws, W.length ≤ 5) (hl : ws.length ≤ 6) : (wordsP ws).sz ≤ 35 ∧ (wordsP ws).len ≤ 35 ∧ (wordsP ws).dd = 0 := by
  have h1 : ∀ ws : List (List UInt8), (∀ W ∈ ws, W.length ≤ 5) → szL ((ws.map wordP).map Pi.it) ≤ 5 * ws.length ∧ lenL ((ws.map wordP).map Pi.it) ≤ 5 * ws.length ∧ ddL ((ws.map wordP).map Pi.it) = 0 := fun ws => by
    induction ws with
    | nil => intro _; exact ⟨Nat.le_refl _, Nat.le_refl _, rfl⟩
    | cons W ws ih =>
      intro h
      have hW := h W (by simp)
      obtain ⟨a1, a2, a3⟩ := ih (fun V hV => h V (by simp [hV]))
      obtain ⟨b1, b2, b3⟩ := wordP_facts W hW
      refine ⟨?_, ?_, ?_⟩
      · show (wordP W).sz + szL ((ws.map wordP).map Pi.it) ≤ 5 * (ws.length + 1); omega
      · show (wordP W).len + lenL ((ws.map wordP).map Pi.it) ≤ 5 * (ws.length + 1); omega
      · show max (wordP W).dd (ddL ((ws.map wordP).map Pi.it)) = 0; rw [b3, a3]; rfl
  obtain ⟨a1, a2, a3⟩ := h1 ws h
  refine ⟨?_, ?_, a3⟩
  · show min (szL ((ws.map wordP).map Pi.it) + (((ws.map wordP).map Pi.it).length - 1)) 301 ≤ 35
    rw [List.length_map, List.length_map]; omega
  · show lenL ((ws.map wordP).map Pi.it) + (((ws.map wordP).map Pi.it).length - 1) ≤ 35
    rw [List.length_map, List.length_map]; omega
end Go.Proofs.YtanpiomfnbiilaaDoor

/- What the law on words asks of found and of Match; words out of raw numbers. -/
namespace Go.Proofs.YtanpiomfnbiilaaDoor
open Go.RowKit

set_option maxRecDepth 100000 in
set_option maxHeartbeats 1000000 in
/-- found, asked of a place below 0, says something. -/
theorem found_some {src text : ByteArray} {p : Pi} {M : Nat → Rl} {w : World} {fr tz : Int} (hfr : fr < 0) (hw : Nm w) (hs : src.size ≤ 100) (ht : text.size ≤ 1000) (h : ReadsN src 0 0 p) (hm : Sm text p.len p.dd p.em M) (hsz : p.sz ≤ 300) (hlen : 1 + p.len ≤ 1000) (hn : (1 + p.len) * (p.dd + 1) ≤ 9000) :
    Calls Tryd.prog 10 #[.string src, .string text, .int .i64 fr, .int .i64 tz] w fun e w' => (∃ b, e = .returned (.bool b)) ∧ Kp [] w w' := by
  have HM := hid (match_node (G := 0) hw hs ht (by omega) h hm hsz hlen hn)
  clear h hm
  go_enter Tryd.func10, Tryd.ntmps10
  go_wp2_with fail
  refine HM.out.mono ?_
  rintro e w1 ⟨k1, s', bst, ⟨hfd, rfl⟩ | ⟨hfd, b, z, rfl, hc⟩⟩
  · clear HM
    go_wp2_with fail
    go_ret
    exact ⟨⟨_, rfl⟩, k1⟩
  · clear HM hc bst hfd
    go_wp2_with fail
    go_ret
    exact ⟨⟨_, rfl⟩, k1⟩

def Wrds (ws : List (List UInt8)) : Prop := ws ≠ [] ∧ ws.length ≤ 6 ∧ ∀ W ∈ ws, (∀ u ∈ W, lett u) ∧ W.length ≤ 5
theorem patL_len : ∀ ws : List (List UInt8), (∀ W ∈ ws, W.length ≤ 5) → (patL ws).length ≤ 6 * ws.length
  | [], _ => Nat.le_refl _
  | W :: ws, h => by
    have key : ∀ ws : List (List UInt8), (∀ W ∈ ws, W.length ≤ 5) → (ws.flatMap (fun V : List UInt8 => 124 :: V)).length ≤ 6 * ws.length := fun ws => by
      induction ws with
      | nil => intro _; exact Nat.le_refl _
      | cons V ws ih =>
        intro h
        have := ih (fun V hV => h V (by simp [hV]))
        have := h V (by simp)
        rw [List.flatMap_cons, List.length_append, List.length_cons, List.length_cons]
        omega
    have := key ws (fun V hV => h V (by simp [hV]))
    have := h W (by simp)
    show (W ++ ws.flatMap (fun V => 124 :: V)).length ≤ 6 * (ws.length + 1)
    rw [List.length_append]
    omega
theorem Wrds.size {ws : List (List UInt8)} (h : Wrds ws) : (patL ws).length ≤ 36 := by
  have := patL_len ws (fun W hW => (h.2.2 W hW).2)
  have := h.2.1
  omega
section
variable {src text : ByteArray} {ws : List (List UInt8)} {w : World} {fr tz : Int}
theorem Wrds.nums (h : Wrds ws) : (wordsP ws).sz ≤ 300 ∧ 1 + (wordsP ws).len ≤ 1000 ∧ (1 + (wordsP ws).len) * ((wordsP ws).dd + 1) ≤ 9000 := by
  obtain ⟨f1, f2, f3⟩ := wordsP_facts ws (fun W hW => (h.2.2 W hW).2) h.2.1
  rw [f3]
  omega
theorem Wrds.reads (h : Wrds ws) (hs : src.data.toList = patL ws) : ReadsN src 0 0 (wordsP ws) := by
  apply readsL
  rw [hs]
  have := branchesL_words (s := []) (g := 0) (.inl rfl) rfl ws h.1 h.2.2 (by have := h.2.1; omega)
  rwa [List.append_nil] at this
theorem found_words (hw : Nm w) (h : Wrds ws) (hs : src.data.toList = patL ws) (ht : text.size ≤ 1000) (hf : Fst text.data.toList ws fr tz) :
    Calls Tryd.prog 10 #[.string src, .string text, .int .i64 fr, .int .i64 tz] w fun e w' => e = .returned (.bool true) ∧ Kp [] w w' :=
  found_node hw (by rw [size_list, hs]; have := h.size; omega) ht (h.reads hs) (smP_words text ws h.1) h.nums.1 h.nums.2.1 h.nums.2.2 (says_words hf)
theorem found_wneg (hw : Nm w) (h : Wrds ws) (hs : src.data.toList = patL ws) (ht : text.size ≤ 1000) (hfr : fr < 0) :
    Calls Tryd.prog 10 #[.string src, .string text, .int .i64 fr, .int .i64 tz] w fun e w' => (∃ b, e = .returned (.bool b)) ∧ Kp [] w w' :=
  found_some hfr hw (by rw [size_list, hs]; have := h.size; omega) ht (h.reads hs) (smP_words text ws h.1) h.nums.1 h.nums.2.1 h.nums.2.2

theorem match_words {W0 : List UInt8} (hw : Nm w) (h : Wrds ws) (hws : ∀ W ∈ ws, Wrd W) (h0 : W0 ∈ ws) (hs : src.data.toList = 94 :: 40 :: (patL ws ++ [41, 43, 36])) (ht : text.data.toList = W0 ++ W0) :
    Calls Tryd.prog 13 #[.string src, .string text] w fun e w' => Kp [] w w' ∧
      ∃ q c v, e = .returned (.tuple #[.slice (some ⟨q, 0, none⟩) 4 c, .int .i64 0, .int .i64 0]) ∧ w'.cell? ⟨q, 1, none⟩ = some (.int .i64 ((2 * W0.length : Nat) : Int)) ∧ w'.cell? ⟨q, 2, none⟩ = some (.int .i64 v) ∧ w'.cell? ⟨q, 3, none⟩ = some (.int .i64 ((2 * W0.length : Nat) : Int)) ∧ v < ((2 * W0.length : Nat) : Int) := by
  obtain ⟨f1, f2, f3⟩ := wordsP_facts ws (fun W hW => (h.2.2 W hW).2) h.2.1
  have hsz := h.size
  have hW := (hws W0 h0).2.1
  refine (match_node (G := 1) (p := piBranches [piRow [piEdge 1, piRep (piGroup 1 (wordsP ws)) 1 none, piEdge 2]]) hw (by rw [size_list, hs]; simp; omega) (by rw [size_list, ht, List.length_append]; omega) (by omega) (readsL ?_) (smP_row1 [(piEdge 1, fun _ => mEdge text 1), (piRep (piGroup 1 (wordsP ws)) 1 none, mRep (grpM text ws) 1 none), (piEdge 2, fun _ => mEdge text 2)] ?_) ?_ ?_ ?_).mono ?_
  · rw [hs]
    refine branchesL_row ⟨by simp, rfl, rfl, _, 0, pieceL_begin, by simp, rfl, rfl, [36], 1, pieceL_atom rfl rfl (atomL_group (by omega) ?_) repL_plus, by simp, rfl, rfl, [], 1, pieceL_end, rfl, rfl, .inl rfl⟩ (by simp) rfl
    exact branchesL_words (s := [41, 43, 36]) (g := 0 + 1) (.inr (.inr rfl)) rfl ws h.1 h.2.2 (by have := h.2.1; omega)
  · intro p hp
    simp at hp
    rcases hp with rfl | rfl | rfl
    · exact smP_edge 1 (.inl rfl)
    · exact smP_rep (smP_group (smP_words text ws h.1) (by omega) (by omega)) 1 none (fun m hm => by cases hm)
    · exact smP_edge 2 (.inr rfl)
  · show min (min (1 + (min ((1 + 1) * min ((wordsP ws).sz + 2) 301 + 1) 301 + (1 + 0))) 301 + 0 + (1 - 1)) 301 ≤ 300
    omega
  · show 1 + ((1 + (((wordsP ws).len + 2 + 2 + 1 * ((wordsP ws).len + 2)) + (1 + 0))) + 0 + (1 - 1)) ≤ 1000
    omega
  · show (1 + ((1 + (((wordsP ws).len + 2 + 2 + 1 * ((wordsP ws).len + 2)) + (1 + 0))) + 0 + (1 - 1))) * (max (max 0 (max ((wordsP ws).dd + 1) (max 0 0))) 0 + 1) ≤ 9000
    rw [f3, show (max (max 0 (max (0 + 1) (max 0 0))) 0 + 1) = 2 from rfl]
    omega
  · rintro e w' ⟨kp, s', hB, hres⟩
    obtain ⟨hf, b1, b3, b2⟩ := best_words hws h0 ht hB
    refine ⟨kp, ?_⟩
    rcases hres with ⟨hf', _⟩ | ⟨_, q, c, he, hc⟩
    · rw [hf] at hf'; cases hf'
    · have c1 := hc 1 (by omega)
      have c2 := hc 2 (by omega)
      have c3 := hc 3 (by omega)
      rw [b1] at c1
      rw [b3] at c3 b2
      exact ⟨q, c, _, he, c1, c2, c3, b2⟩
end

theorem conv_lit97 (W : World) : (convert 28 9 (.slice (some ⟨W.heap.size, 0, none⟩) 1 1)).run Tryd.prog (W.alloc (.cells #[.int .u8 97] 5)) = .ok (.string ⟨#[97]⟩) (W.alloc (.cells #[.int .u8 97] 5)) := conv_nat W 97 (by omega)
theorem conv_lit98 (W : World) : (convert 28 9 (.slice (some ⟨W.heap.size, 0, none⟩) 1 1)).run Tryd.prog (W.alloc (.cells #[.int .u8 98] 5)) = .ok (.string ⟨#[98]⟩) (W.alloc (.cells #[.int .u8 98] 5)) := conv_nat W 98 (by omega)
theorem conv_lit99 (W : World) : (convert 28 9 (.slice (some ⟨W.heap.size, 0, none⟩) 1 1)).run Tryd.prog (W.alloc (.cells #[.int .u8 99] 5)) = .ok (.string ⟨#[99]⟩) (W.alloc (.cells #[.int .u8 99] 5)) := conv_nat W 99 (by omega)
theorem lett_snoc {S : ByteArray} {c : UInt8} (h : ∀ u ∈ S.data.toList, u = 97 ∨ u = 98 ∨ u = 99) (hc : c = 97 ∨ c = 98 ∨ c = 99) : ∀ u ∈ (S ++ ⟨#[c]⟩ : ByteArray).data.toList, u = 97 ∨ u = 98 ∨ u = 99 := by
  intro u hu
  rw [ByteArray.data_append, Array.toList_append] at hu
  rcases List.mem_append.1 hu with q | q
  · exact h u q
  · rw [List.mem_singleton.1 (show u ∈ [c] from q)]; exact hc
set_option maxRecDepth 100000 in
set_option maxHeartbeats 2000000 in
theorem word_any (raw most : Int) (h1 : -9223372036854775808 ≤ raw) (h2 : raw ≤ 9223372036854775807) (h3 : 0 < most) (h4 : most ≤ 5) (w : World) :
    Calls Tryd.prog 12 #[.int .i64 raw, .int .i64 most] w fun e w' => ∃ W : ByteArray, e = .returned (.string W) ∧ Wrd W.data.toList ∧ (W.size : Int) ≤ most ∧ Kp [] w w' := by
  go_enter Tryd.func12, Tryd.ntmps12
  go_wp2_with fail
  refine (pick_any raw most h1 h2 h3 (by omega) _).mono ?_
  rintro e w1 ⟨rfl, rfl⟩
  obtain ⟨p1, p2⟩ := pk_bd raw most h3
  obtain ⟨n, hn⟩ : ∃ n : Nat, pk raw most + 1 = (n : Int) := ⟨(pk raw most + 1).toNat, by omega⟩
  obtain ⟨z, hz⟩ : ∃ z, pk raw most = z := ⟨_, rfl⟩
  rw [hz] at hn p1 p2 ⊢
  clear hz
  have wn := wrap_i64_nat n (by omega)
  go_wp2_with fail
  obtain ⟨y, hy⟩ : ∃ y, raw.tdiv 7 = y := ⟨_, rfl⟩
  have hyb : -9223372036854775808 ≤ y ∧ y ≤ 9223372036854775807 := by
    rw [← hy]
    rcases Int.le_total 0 raw with h | h
    · rw [Int.tdiv_eq_ediv_of_nonneg h]; omega
    · rw [show raw = -(-raw) by omega, Int.neg_tdiv, Int.tdiv_eq_ediv_of_nonneg (by omega)]; omega
  rw [hy]
  clear hy
  refine (pick_any y 1099511627776 hyb.1 hyb.2 (by omega) (by omega) _).mono ?_
  rintro e w2 ⟨rfl, rfl⟩
  obtain ⟨q1, q2⟩ := pk_bd y 1099511627776 (by omega)
  obtain ⟨r0, hr0⟩ : ∃ r0 : Nat, pk y 1099511627776 = (r0 : Int) := ⟨(pk y 1099511627776).toNat, by omega⟩
  rw [hr0] at q1 q2 ⊢
  have hnb : 1 ≤ n ∧ (n : Int) ≤ most := by omega
  clear hr0 hyb hn p1 p2
  go_wp2_with fail
  go_loopw [0, 6, 7] (fun rv s i wr => ∃ (k r : Nat) (S : ByteArray), k ≤ n ∧ r < 1099511627776 ∧ rv = .int .i64 r ∧ s = .string S ∧ i = .int .i64 k ∧ S.size = k ∧ Hid (∀ u ∈ S.data.toList, u = 97 ∨ u = 98 ∨ u = 99) ∧ Kp [] w2 wr) (fun _ _ i _ => n - (intOf i).toNat)
  case atStart => exact ⟨0, r0, ⟨#[]⟩, by omega, by omega, rfl, rfl, rfl, rfl, hid (fun u hu => by cases hu), Kp.refl _ _⟩
  case round =>
    obtain ⟨k, r, S, hk, hr, rfl, rfl, rfl, hS, HS, kp⟩ := hrel
    by_cases hlt : k < n
    · obtain ⟨k1, hk1⟩ : ∃ k1 : Nat, (k : Int) + 1 = (k1 : Int) := ⟨k + 1, by omega⟩
      have wk1 := wrap_i64_nat k1 (by omega)
      have HK := hid (show k1 = k + 1 by omega)
      obtain ⟨d, hd⟩ : ∃ d : Nat, (r : Int).tdiv 5 = (d : Int) ∧ d < 1099511627776 := ⟨r / 5, by rw [Int.tdiv_eq_ediv_of_nonneg (by omega)]; omega, by omega⟩
      obtain ⟨hd1, hd2⟩ := hd
      have wd := wrap_i64_nat d (by omega)
      have hm : (r : Int).tmod 5 = (r : Int) % 5 := Int.tmod_eq_emod_of_nonneg (by omega)
      have hz1 : ¬ 9223372036854775807 < S.size + 1 := by omega
      rcases (show (r : Int) % 5 = 0 ∨ (r : Int) % 5 = 1 ∨ (r : Int) % 5 = 2 ∨ (r : Int) % 5 = 3 ∨ (r : Int) % 5 = 4 by omega) with h5 | h5 | h5 | h5 | h5
      · have hmm : (r : Int).tmod 5 = 0 := by rw [hm]; omega
        have ix : ((((⟨#[97, 97, 98, 98, 99]⟩ : ByteArray)[0]'(by decide)).toNat : Nat) : Int) = 97 := rfl
        have kc := conv_lit97 wr
        clear hm
        go_wp2_with fail
        refine ⟨⟨k1, d, _, by omega, hd2, rfl, rfl, rfl, ?_, hid ?_, kp.trans (Kp.alloc _ _ _)⟩, by simp [intOf]; omega⟩
        · rw [ByteArray.size_append, hS]; exact HK.out.symm
        · exact lett_snoc HS.out (by decide)
      · have hmm : (r : Int).tmod 5 = 1 := by rw [hm]; omega
        have ix : ((((⟨#[97, 97, 98, 98, 99]⟩ : ByteArray)[1]'(by decide)).toNat : Nat) : Int) = 97 := rfl
        have kc := conv_lit97 wr
        clear hm
        go_wp2_with fail
        refine ⟨⟨k1, d, _, by omega, hd2, rfl, rfl, rfl, ?_, hid ?_, kp.trans (Kp.alloc _ _ _)⟩, by simp [intOf]; omega⟩
        · rw [ByteArray.size_append, hS]; exact HK.out.symm
        · exact lett_snoc HS.out (by decide)
      · have hmm : (r : Int).tmod 5 = 2 := by rw [hm]; omega
        have ix : ((((⟨#[97, 97, 98, 98, 99]⟩ : ByteArray)[2]'(by decide)).toNat : Nat) : Int) = 98 := rfl
        have kc := conv_lit98 wr
        clear hm
        go_wp2_with fail
        refine ⟨⟨k1, d, _, by omega, hd2, rfl, rfl, rfl, ?_, hid ?_, kp.trans (Kp.alloc _ _ _)⟩, by simp [intOf]; omega⟩
        · rw [ByteArray.size_append, hS]; exact HK.out.symm
        · exact lett_snoc HS.out (by decide)
      · have hmm : (r : Int).tmod 5 = 3 := by rw [hm]; omega
        have ix : ((((⟨#[97, 97, 98, 98, 99]⟩ : ByteArray)[3]'(by decide)).toNat : Nat) : Int) = 98 := rfl
        have kc := conv_lit98 wr
        clear hm
        go_wp2_with fail
        refine ⟨⟨k1, d, _, by omega, hd2, rfl, rfl, rfl, ?_, hid ?_, kp.trans (Kp.alloc _ _ _)⟩, by simp [intOf]; omega⟩
        · rw [ByteArray.size_append, hS]; exact HK.out.symm
        · exact lett_snoc HS.out (by decide)
      · have hmm : (r : Int).tmod 5 = 4 := by rw [hm]; omega
        have ix : ((((⟨#[97, 97, 98, 98, 99]⟩ : ByteArray)[4]'(by decide)).toNat : Nat) : Int) = 99 := rfl
        have kc := conv_lit99 wr
        clear hm
        go_wp2_with fail
        refine ⟨⟨k1, d, _, by omega, hd2, rfl, rfl, rfl, ?_, hid ?_, kp.trans (Kp.alloc _ _ _)⟩, by simp [intOf]; omega⟩
        · rw [ByteArray.size_append, hS]; exact HK.out.symm
        · exact lett_snoc HS.out (by decide)
    · go_wp2_with fail
      go_ret
      obtain rfl : n = k := by omega
      refine ⟨S, rfl, ⟨?_, ?_, HS.out⟩, by omega, kp⟩
      · intro h
        have e : S.size = ([] : List UInt8).length := by rw [size_list, h]
        rw [List.length_nil] at e
        omega
      · rw [← size_list]; omega
end Go.Proofs.YtanpiomfnbiilaaDoor

/- The law on words. -/
namespace Go.Proofs.YtanpiomfnbiilaaDoor
open Go.RowKit

/-- A slice of numbers. -/
structure NumsIn (w : World) (A : Option Addr) (n : Nat) (z : Nat → Int) : Prop where
  at_ : ∀ j, j < n → ∃ ad, A = some ad ∧ w.cell? (ad.add j) = some (.int .i64 (z j))
  bd : ∀ j, j < n → -9223372036854775808 ≤ z j ∧ z j ≤ 9223372036854775807
theorem NumsIn.keep {w w' : World} {A : Option Addr} {n : Nat} {z : Nat → Int} (h : NumsIn w A n z) (k : Kp [] w w') : NumsIn w' A n z :=
  ⟨fun j hj => by
    obtain ⟨ad, e, hc⟩ := h.at_ j hj
    exact ⟨ad, e, (k.cell (World.block_lt_of_cell? _ _ hc) (by simp)).trans hc⟩, h.bd⟩

/-- Letters. -/
def Lts (T : ByteArray) : Prop := ∀ u ∈ T.data.toList, u = 97 ∨ u = 98 ∨ u = 99
theorem Lts.app {T W : ByteArray} (h : Lts T) (h2 : Lts W) : Lts (T ++ W) := fun u hu => by
  rw [ByteArray.data_append, Array.toList_append] at hu
  rcases List.mem_append.1 hu with q | q
  · exact h u q
  · exact h2 u q

/-- A word, by its bytes. -/
abbrev bl (W : ByteArray) : List UInt8 := W.data.toList
theorem Tryd.infoString : (Tryd.prog.info? 9).map (fun i => (i.zero, i.size, i.bytes)) = some (some (.string ⟨#[]⟩), 1, 16) := by kernel_rfl

/-- The words that are kept. -/
structure Kept (w wx : World) (v : Value) (P : ByteArray) (ws : List ByteArray) : Prop where
  own : wx.ownsRow w.heap.size 9 1 v ws.length (ws.map Value.string)
  pat : bl P = patL (ws.map bl)
  wrd : ∀ W ∈ ws, Wrd (bl W)
theorem Kept.keep {w wx wy : World} {v : Value} {P : ByteArray} {ws : List ByteArray} (h : Kept w wx v P ws) (k : Kp [] wx wy) : Kept w wy v P ws :=
  ⟨ownsRow_keep h.own k (fun x hx => by cases hx), h.pat, h.wrd⟩
theorem Kept.size {w wx : World} {v : Value} {P : ByteArray} {ws : List ByteArray} (h : Kept w wx v P ws) : P.size ≤ 6 * ws.length := by
  have := patL_len (ws.map bl) (fun W hW => by
    obtain ⟨V, hV, rfl⟩ := List.mem_map.1 hW
    exact (h.wrd V hV).2.1)
  rw [List.length_map, ← h.pat] at this
  exact this
theorem Kept.form {w wx : World} {v : Value} {P : ByteArray} {ws : List ByteArray} (h : Kept w wx v P ws) : ∃ AA cc, v = .slice AA ws.length cc := by
  rcases h.own.2 with ⟨rfl, e⟩ | ⟨g, cap, cur, rfl, _⟩
  · exact ⟨none, 0, by rw [e]⟩
  · exact ⟨_, _, rfl⟩
theorem Kept.some {w wx : World} {AA : Option Addr} {P : ByteArray} {ws : List ByteArray} {n cc : Nat} (h : Kept w wx (.slice AA n cc) P ws) (hn : ws ≠ []) : ∃ g, AA = some ⟨g, 0, none⟩ ∧ ∀ j W, ws[j]? = some W → wx.cell? ⟨g, j, none⟩ = some (.string W) := by
  rcases h.own.2 with ⟨e, e2⟩ | ⟨g, cap, cur, e, _⟩
  · exact absurd (List.length_eq_zero_iff.1 e2) hn
  · injection e with e1 e2 e3
    refine ⟨g, e1, fun j W hj => ?_⟩
    have := h.own.cells (g := g) (by rw [e1]; rfl) j (.string W) (by rw [List.getElem?_map, hj]; rfl)
    rw [show (⟨g, 0, none⟩ : Addr).add j = ⟨g, j, none⟩ by simp [Addr.add]; exact fun e => e.symm] at this
    exact this
/-- A frame behind an append of a row of one's own. -/
theorem kp_grown {w w4 w5 : World} {v : Value} {o : Obj} {n : Nat} {xs : List Value} {e : TypeId} (k : Kp [] w w4) (ow : w4.ownsRow w.heap.size e 1 v n xs) (hg : (w4.alloc o).grownBy w5 v.ownBlock) : Kp [] w w5 := by
  have kg := grown_kp hg
  have hz := k.size
  have hge : ∀ x, x ∈ (Value.ownBlock v).toList → w.heap.size ≤ x := fun x hx => (ow.lt x (by simpa using hx)).1
  exact ⟨kg.os.trans k.os, kg.tape.trans k.tape, kg.output.trans k.output, Nat.le_trans k.size (Nat.le_trans (by simp) kg.size), fun q hq hn => (kg.block q (by simp; omega) (fun e => by have := hge q e; omega)).trans (((Kp.alloc [] w4 _).block q (by omega) (by simp)).trans (k.block q hq hn))⟩

set_option maxHeartbeats 800000 in
theorem stands_same {s v : ByteArray} (hs : s.size ≤ 100000) (hv : v.size ≤ 100000) (w : World) :
    Calls Tryd.prog 9 #[.string s, .string v, .int .i64 0] w fun e w' => w' = w ∧
      ((∃ i : Nat, e = .returned (.int .i64 i) ∧ standsB s v i = true ∧ ∀ j, j < i → standsB s v j = false) ∨ (e = .returned (.int .i64 (-1)) ∧ ∀ j, standsB s v j = false)) := by
  go_enter Tryd.func9, Tryd.ntmps9
  go_wp2_with fail
  go_loopw [7] (fun x wr => ∃ k : Nat, k ≤ 200001 ∧ x = .int .i64 k ∧ wr = w ∧ Hid (∀ j, j < k → standsB s v j = false)) (fun x _ => 300000 - (intOf x).toNat)
  case atStart => exact ⟨0, by omega, rfl, rfl, hid (fun j h1 => by omega)⟩
  case round =>
    obtain ⟨k, hk, rfl, kr, hno⟩ := hrel
    obtain ⟨q, hq⟩ : ∃ q : Nat, (k : Int) + (v.size : Int) = (q : Int) := ⟨k + v.size, by omega⟩
    have wq := wrap_i64_nat q (by omega)
    have hqn : q = k + v.size := by omega
    obtain ⟨k1, hk1⟩ : ∃ k1 : Nat, (k : Int) + 1 = (k1 : Int) := ⟨k + 1, by omega⟩
    have wk1 := wrap_i64_nat k1 (by omega)
    have HQ := hid hqn
    have KR := hid kr
    clear hqn kr
    by_cases hle : q ≤ s.size
    · obtain ⟨b, hb⟩ : ∃ b, ((s.extract k q).toList == v.toList) = b := ⟨_, rfl⟩
      have hkq : k ≤ q := by have := HQ.out; omega
      have hst : standsB s v k = b := by
        unfold standsB
        rw [← HQ.out, decide_eq_true hle, Bool.true_and]; exact hb
      have HST := hid hst
      clear hst
      cases b with
      | true =>
        go_wp2_with fail
        go_ret
        exact ⟨KR.out, .inl ⟨k, rfl, HST.out, hno.out⟩⟩
      | false =>
        go_wp2_with fail
        refine ⟨⟨k1, by have := HQ.out; omega, by go_num, KR.out, hid (fun j h2 => ?_)⟩, by simp [intOf]; omega⟩
        by_cases e : j = k
        · rw [e]; exact HST.out
        · exact hno.out j (by omega)
    · go_wp2_with fail
      go_ret
      refine ⟨KR.out, .inr ⟨rfl, fun j => ?_⟩⟩
      by_cases e : j < k
      · exact hno.out j e
      · unfold standsB
        rw [decide_eq_false (by have := HQ.out; omega), Bool.false_and]
theorem least_of {p : Nat → Bool} : ∀ n, p n = true → ∃ i, p i = true ∧ ∀ j, j < i → p j = false
  | n, h => by
    induction n using Nat.strongRecOn with
    | ind n ih =>
      by_cases e : ∃ j, j < n ∧ p j = true
      · obtain ⟨j, hj, hp⟩ := e
        exact ih j hj hp
      · refine ⟨n, h, fun j hj => ?_⟩
        cases hp : p j with
        | false => rfl
        | true => exact absurd ⟨j, hj, hp⟩ e
theorem stands_det {s v : ByteArray} (hs : s.size ≤ 100000) (hv : v.size ≤ 100000) :
    ∃ r : Int, (∀ w, Calls Tryd.prog 9 #[.string s, .string v, .int .i64 0] w fun e w' => e = .returned (.int .i64 r) ∧ w' = w) ∧ (r = 0 ↔ standsB s v 0 = true) := by
  by_cases h : ∃ n, standsB s v n = true
  · obtain ⟨n, hn⟩ := h
    obtain ⟨i, hi, hl⟩ := least_of n hn
    refine ⟨i, fun w => (stands_same hs hv w).mono ?_, ?_⟩
    · rintro e w' ⟨rfl, ⟨j, rfl, hj, hjl⟩ | ⟨_, hno⟩⟩
      · have : i = j := by
          rcases Nat.lt_trichotomy i j with q | q | q
          · rw [hjl i q] at hi; cases hi
          · exact q
          · rw [hl j q] at hj; cases hj
        rw [this]; exact ⟨rfl, rfl⟩
      · rw [hno i] at hi; cases hi
    · constructor
      · intro e
        obtain rfl : i = 0 := by omega
        exact hi
      · intro e
        by_cases hz : i = 0
        · rw [hz]; rfl
        · rw [hl 0 (by omega)] at e; cases e
  · have hno : ∀ j, standsB s v j = false := fun j => by
      cases hp : standsB s v j with
      | false => rfl
      | true => exact absurd ⟨j, hp⟩ h
    refine ⟨-1, fun w => (stands_same hs hv w).mono ?_, ?_⟩
    · rintro e w' ⟨rfl, ⟨j, rfl, hj, _⟩ | ⟨rfl, _⟩⟩
      · rw [hno j] at hj; cases hj
      · exact ⟨rfl, rfl⟩
    · rw [hno 0]
      constructor
      · intro e; omega
      · intro e; cases e
/-- Does a word stand at place k? -/
theorem stands_at {T W : ByteArray} {k : Nat} (hT : T.size ≤ 100000) (hW : W.size ≤ 100000) (hne : bl W ≠ []) :
    ∃ r : Int, (∀ w, Calls Tryd.prog 9 #[.string (T.extract k T.size), .string W, .int .i64 0] w fun e w' => e = .returned (.int .i64 r) ∧ w' = w) ∧ (r = 0 ↔ Stn (bl T) k (bl W)) := by
  obtain ⟨r, h1, h2⟩ := stands_det (s := T.extract k T.size) (v := W) (by rw [ByteArray.size_extract]; omega) hW
  refine ⟨r, h1, h2.trans ?_⟩
  rw [standsB_iff _ _ _ hne]
  have e : (T.extract k T.size).data.toList = (bl T).drop k := by
    rw [ByteArray.data_extract, Array.toList_extract, List.extract_eq_take_drop, List.take_of_length_le]
    rw [List.length_drop]
    have : T.data.toList.length = T.size := rfl
    omega
  rw [e]
  unfold Stn
  rw [List.drop_zero]

/-- What is known at place k when q words have been tried there. -/
def Tried (t : List UInt8) (ws : List ByteArray) (k q : Nat) (fr tt : Int) : Prop :=
  (fr = -1 ∧ tt = -1 ∧ ∀ W ∈ ws.take q, ¬ Stn t k (bl W)) ∨
  (fr = k ∧ ∃ j : Nat, tt = j ∧ j ≤ k + 5 ∧ (∃ W ∈ ws.take q, Stn t k (bl W) ∧ j = k + W.size) ∧ ∀ W ∈ ws.take q, Stn t k (bl W) → k + W.size ≤ j)
/-- What is known when the places ahead of k have been tried. -/
def Bef (t : List UInt8) (ws : List ByteArray) (k : Nat) (fr tt : Int) : Prop :=
  (fr = -1 ∧ tt = -1 ∧ ∀ i, i < k → ∀ W ∈ ws, ¬ Stn t i (bl W)) ∨ (0 ≤ fr ∧ fr ≤ 100 ∧ 0 ≤ tt ∧ tt ≤ 200 ∧ Fst t (ws.map bl) fr tt)
theorem Tried.zero (t : List UInt8) (ws : List ByteArray) (k : Nat) : Tried t ws k 0 (-1) (-1) := .inl ⟨rfl, rfl, fun W hW => by simp at hW⟩
theorem Tried.no {t : List UInt8} {ws : List ByteArray} {k q : Nat} {fr tt : Int} {W : ByteArray} (h : Tried t ws k q fr tt) (hq : ws[q]? = some W) (hn : Stn t k (bl W) → ((k + W.size : Nat) : Int) ≤ tt) : Tried t ws k (q + 1) fr tt := by
  have e : ws.take (q + 1) = ws.take q ++ [W] := by rw [List.take_add_one, hq]; rfl
  rcases h with ⟨h1, h2, h3⟩ | ⟨h1, j, h2, h3, ⟨V, hV, hs⟩, h5⟩
  · refine .inl ⟨h1, h2, fun V hV => ?_⟩
    rw [e] at hV
    rcases List.mem_append.1 hV with p | p
    · exact h3 V p
    · rw [List.mem_singleton.1 p]
      intro hs
      have := hn hs
      omega
  · refine .inr ⟨h1, j, h2, h3, ⟨V, by rw [e]; exact List.mem_append_left _ hV, hs⟩, fun V' hV' hs' => ?_⟩
    rw [e] at hV'
    rcases List.mem_append.1 hV' with p | p
    · exact h5 V' p hs'
    · rw [List.mem_singleton.1 p] at hs' ⊢
      have := hn hs'
      omega
theorem Tried.yes {t : List UInt8} {ws : List ByteArray} {k q : Nat} {fr tt : Int} {W : ByteArray} (h : Tried t ws k q fr tt) (hq : ws[q]? = some W) (hW : W.size ≤ 5) (hs : Stn t k (bl W)) (hlt : tt < ((k + W.size : Nat) : Int)) : Tried t ws k (q + 1) k ((k + W.size : Nat) : Int) := by
  have e : ws.take (q + 1) = ws.take q ++ [W] := by rw [List.take_add_one, hq]; rfl
  refine .inr ⟨rfl, k + W.size, rfl, by omega, ⟨W, by rw [e]; simp, hs, rfl⟩, fun V' hV' hs' => ?_⟩
  rw [e] at hV'
  rcases List.mem_append.1 hV' with p | p
  · rcases h with ⟨_, _, h3⟩ | ⟨_, j, h2, _, _, h5⟩
    · exact absurd hs' (h3 V' p)
    · have := h5 V' p hs'
      omega
  · rw [List.mem_singleton.1 p]; exact Nat.le_refl _
theorem Tried.bds {t : List UInt8} {ws : List ByteArray} {k q : Nat} {fr tt : Int} (h : Tried t ws k q fr tt) (hk : k ≤ 80) : -1 ≤ fr ∧ fr ≤ 80 ∧ -1 ≤ tt ∧ tt ≤ 85 := by
  rcases h with ⟨h1, h2, h3⟩ | ⟨h1, j, h2, h3, _⟩ <;> omega
theorem Bef.next {t : List UInt8} {ws : List ByteArray} {k q : Nat} {fr tt : Int} (hb : ∀ i, i < k → ∀ W ∈ ws, ¬ Stn t i (bl W)) (h : Tried t ws k q fr tt) (hq : ws.length ≤ q) (hk : k < t.length) (hk80 : k ≤ 80) : Bef t ws (k + 1) fr tt := by
  have e : ws.take q = ws := List.take_of_length_le hq
  rcases h with ⟨h1, h2, h3⟩ | ⟨h1, j, h2, h3, ⟨V, hV, hs, hj⟩, h5⟩
  · rw [e] at h3
    refine .inl ⟨h1, h2, fun i hi W hW => ?_⟩
    by_cases ek : i = k
    · rw [ek]; exact h3 W hW
    · exact hb i (by omega) W hW
  · rw [e] at hV h5
    refine .inr ⟨by omega, by omega, by omega, by omega, .inr ⟨k, j, h1, h2, by omega, ⟨bl V, List.mem_map.2 ⟨V, hV, rfl⟩, hs, hj⟩, fun i W hW hs' => ?_⟩⟩
    obtain ⟨U, hU, rfl⟩ := List.mem_map.1 hW
    refine ⟨?_, fun ek => ?_⟩
    · by_cases hlt : i < k
      · exact absurd hs' (hb i hlt U hU)
      · omega
    · rw [← ek] at hs' ⊢
      exact h5 U hU hs'
theorem Bef.fst {t : List UInt8} {ws : List ByteArray} {k : Nat} {fr tt : Int} (h : Bef t ws k fr tt) (hw : ∀ W ∈ ws, Wrd (bl W)) (hk : t.length ≤ k ∨ 0 ≤ fr) : Fst t (ws.map bl) fr tt := by
  rcases h with ⟨h1, h2, h3⟩ | ⟨_, _, _, _, h⟩
  · refine .inl ⟨fun i W hW hs => ?_, h1⟩
    obtain ⟨U, hU, rfl⟩ := List.mem_map.1 hW
    have hne := (hw U hU).1
    have hl := hs.le hne
    have hp : 0 < (bl U).length := List.length_pos_iff.2 hne
    exact h3 i (by omega) U hU hs
  · exact h
theorem Bef.bds {t : List UInt8} {ws : List ByteArray} {k : Nat} {fr tt : Int} (h : Bef t ws k fr tt) : -1 ≤ fr ∧ fr ≤ 100 ∧ -1 ≤ tt ∧ tt ≤ 200 := by
  rcases h with ⟨h1, h2, h3⟩ | ⟨_, _, _, _, h⟩ <;> omega

theorem wrd_of {ws : List ByteArray} (h : ∀ W ∈ ws, Wrd (bl W)) : ∀ W ∈ ws.map bl, Wrd W := fun W hW => by
  obtain ⟨V, hV, rfl⟩ := List.mem_map.1 hW
  exact h V hV
theorem wrds_of {ws : List ByteArray} (h : ∀ W ∈ ws, Wrd (bl W)) (h1 : 1 ≤ ws.length) (h2 : ws.length ≤ 5) : Wrds (ws.map bl) := by
  refine ⟨by intro e; have := congrArg List.length e; simp at this; rw [this] at h1; simp at h1, by rw [List.length_map]; omega, fun W hW => ?_⟩
  have := wrd_of h W hW
  exact ⟨fun u hu => lett_of (by have := this.2.2 u hu; rcases this with q | q | q <;> simp [q]), this.2.1⟩
theorem Wrds.x {ws : List (List UInt8)} (h : Wrds ws) (hl : ws.length ≤ 5) : Wrds (ws ++ [[120]]) := by
  refine ⟨by simp, by rw [List.length_append, List.length_singleton]; omega, fun W hW => ?_⟩
  rcases List.mem_append.1 hW with q | q
  · exact h.2.2 W q
  · rw [List.mem_singleton.1 q]
    exact ⟨fun u hu => by rw [List.mem_singleton.1 hu]; exact lett_of (by simp), by simp⟩
theorem lts_x {T : ByteArray} (h : Lts T) : ∀ u ∈ bl T, u ≠ 120 := fun u hu => by
  rcases h u hu with rfl | rfl | rfl <;> decide
theorem pat_x {P : ByteArray} {ws : List ByteArray} (h : bl P = patL (ws.map bl)) (hne : ws.map bl ≠ []) : (P ++ (⟨#[124, 120]⟩ : ByteArray)).data.toList = patL (ws.map bl ++ [[120]]) := by
  rw [patL_snoc _ hne, ← h, ByteArray.data_append, Array.toList_append]
theorem txt_x2 {T : ByteArray} {ws : List (List UInt8)} {fr tt : Int} (h : Fst (bl T ++ [120]) ws fr tt) : Fst (T ++ (⟨#[120]⟩ : ByteArray)).data.toList ws fr tt := by
  rw [ByteArray.data_append, Array.toList_append]; exact h
end Go.Proofs.YtanpiomfnbiilaaDoor
