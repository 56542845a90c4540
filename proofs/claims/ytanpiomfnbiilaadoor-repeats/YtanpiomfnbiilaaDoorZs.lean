/- The table of the classes' names, out of the premise on the start. -/
import Derived.Test.YtanpiomfnbiilaaDoorRows
import Derived.Test.YtanpiomfnbiilaaDoorZc
import Derived.ProofKit
import Derived.LaidMore
import Derived.Lay
import Derived.OpenShut
import Derived.Stop.Joined
namespace Go.Proofs.YtanpiomfnbiilaaDoor
open Go.ChangeShapes Go.WideShapes Go.ChangeAt Go.RowKit

theorem own0 : ownKnob Tryd.prog.godebug = none := by kernel_rfl
theorem gNames : Tryd.prog.globalNamed "ribbon/pattern.names" = some 0 := by kernel_rfl
theorem at_take {l : List Value} {k j : Nat} {v : Value} (h : (((l.drop k).take 2).drop j).take 1 = [v]) (hj : j < 2) : l[k + j]? = some v := by
  have h2 := congrArg (fun x => x[0]?) h
  simp only [List.getElem?_take, List.getElem?_drop, Nat.add_zero, List.getElem?_cons_zero] at h2
  rw [if_pos (by omega), if_pos hj] at h2
  exact h2

theorem bytes_eq {s : ByteArray} {l : List UInt8} (h : s.data.toList = l) : s = ⟨l.toArray⟩ := by
  cases s; subst h; simp
theorem wf_i64 {n : Int} (h : (Lit.int .i64 n).wf = true) : -9223372036854775808 ≤ n ∧ n ≤ 9223372036854775807 := by
  simp only [Lit.wf, Bool.and_eq_true, decide_eq_true_eq] at h
  exact ⟨h.1, h.2⟩

theorem uEntry : ∃ fs : Array Field, Tryd.prog.underlying 122 = some (.struct fs) ∧ ∃ f0 f1, fs[0]? = some f0 ∧ fs[1]? = some f1 ∧ fs.size = 2 ∧ f0.type = 9 ∧ f0.offset = 0 ∧ f1.type = 9 ∧ f1.offset = 1 :=
  ⟨_, Tryd.underlying122, _, _, rfl, rfl, rfl, rfl, rfl, rfl, rfl⟩

abbrev laidT : List (String × DataW Unit) := [("ribbon/pattern.names", Rows.laid_ribbon_pattern_names)]

/-- The two texts of an entry of the table, out of the premise on the start. -/
theorem entry_of {W : World} (h : laidMetH Tryd.prog laidT W) : ∀ i, i < 7 → ∃ s t : ByteArray, W.cell? ⟨0, i * 2, none⟩ = some (.string s) ∧ W.cell? ⟨0, i * 2 + 1, none⟩ = some (.string t) ∧
    (match (Rows.laid_ribbon_pattern_names : DataW Unit) with | .agg l => l | _ => [])[i]? = some (.agg [.lit (.string s.data.toList), .lit (.string t.data.toList)]) := by
  rw [MakeChecks.laidMetH_plain _ _ _ (by kernel_rfl)] at h
  obtain ⟨ps, ⟨g, t, cs, fuel, p, q, hg, ht, hv, hd, _, _⟩, _, _⟩ := h
  obtain rfl := Option.some.inj (gNames.symm.trans hg)
  obtain rfl := Option.some.inj ((show (Tryd.prog.globals[0]?).map (·.type) = some 123 by kernel_rfl).symm.trans ht)
  obtain ⟨xs, m, _, ex, _, hl, hel⟩ := DataW.trod_array Tryd.underlying123 hd
  have c2 : Tryd.prog.cellsOf 122 = 2 := by kernel_rfl
  have c1 : Tryd.prog.cellsOf 9 = 1 := by kernel_rfl
  have us : Tryd.prog.underlying 9 = some .string := by kernel_rfl
  obtain ⟨fs, ufs, f0, f1, e0, e1, esz, t0, o0, t1, o1⟩ := uEntry
  intro i hi
  have hE := hel i hi
  rw [c2, List.getElem?_eq_getElem (by omega)] at hE
  obtain ⟨ys, n, _, ey, _, hyl, hys⟩ := DataW.trod_struct ufs hE
  rw [esz] at hyl
  have h0 := hys 0 f0 e0
  have h1 := hys 1 f1 e1
  rw [t0, o0, c1, List.getElem?_eq_getElem (by omega)] at h0
  rw [t1, o1, c1, List.getElem?_eq_getElem (by omega)] at h1
  obtain ⟨s, es, es', _⟩ := DataW.trod_string us h0
  obtain ⟨u, eu, eu', _⟩ := DataW.trod_string us h1
  have d0 := at_take es (by omega)
  have d1 := at_take eu (by omega)
  refine ⟨s, u, ?_, ?_, ?_⟩
  · rw [World.var?_cell hg hv]; simpa using d0
  · rw [World.var?_cell hg hv]; simpa using d1
  · have e3 : (xs.map (·.1))[i]? = some (.agg (ys.map (·.1))) := by rw [List.getElem?_map, List.getElem?_eq_getElem (by omega : i < xs.length), ey]; rfl
    have e4 : (Rows.laid_ribbon_pattern_names : DataW Unit) = .agg (xs.map (·.1)) := (Prod.mk.inj ex).1
    rw [e4]
    show (xs.map (·.1))[i]? = _
    rw [e3]
    match ys, hyl, es', eu' with
    | [y0, y1], _, es', eu' =>
      have a0 : y0 = _ := es'
      have a1 : y1 = _ := eu'
      rw [a0, a1]; rfl

theorem nm_of {W : World} (h : laidMetH Tryd.prog laidT W) : Nm W := by
  have key := entry_of h
  have all : ∀ i, i < 7 → W.cell? ⟨0, i * 2, none⟩ = some (.string (nmN i)) ∧ W.cell? ⟨0, i * 2 + 1, none⟩ = some (.string (nmS i)) := by
    intro i hi
    obtain ⟨s, t, h1, h2, h3⟩ := key i hi
    match i, hi with
    | 0, _ | 1, _ | 2, _ | 3, _ | 4, _ | 5, _ | 6, _ =>
      simp only [Rows.laid_ribbon_pattern_names, List.getElem?_cons_zero, List.getElem?_cons_succ, Option.some.injEq, DataW.agg.injEq, List.cons.injEq, DataW.lit.injEq, Lit.string.injEq, and_true] at h3
      rw [h1, h2, bytes_eq h3.1.symm, bytes_eq h3.2.symm]
      exact ⟨rfl, rfl⟩
  exact ⟨World.block_lt_of_cell? _ _ (all 0 (by omega)).1, fun i hi => (all i hi).1, fun i hi => (all i hi).2⟩

end Go.Proofs.YtanpiomfnbiilaaDoor
