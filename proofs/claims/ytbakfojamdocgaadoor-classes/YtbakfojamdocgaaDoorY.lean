/- The finder over a text of one byte. -/
import Derived.Test.YtbakfojamdocgaaDoorYb
import Derived.Test.YtbakfojamdocgaaDoorZa
import Derived.Laws.CopyOwn
import Derived.Deep.WholeRow
namespace Go.Proofs.YtbakfojamdocgaaDoor
open Go.RowKit

theorem make_two (w : World) : (Instr.makeSlice 32 (.int .i64 2) (.int .i64 2)).run Tryd.prog w = .ok (.slice (some ⟨w.heap.size, 0, none⟩) 2 2) (w.alloc (.cells #[.int .i64 0, .int .i64 0] 3)) := by kernel_rfl

abbrev zeroF : Array Value := #[.pointer none, .string ⟨#[]⟩, .int .i64 0, .slice none 0 0, .slice none 0 0, .slice none 0 0, .slice none 0 0, .bool false, .int .i64 0, .int .i64 0, .int .i64 0, .int .i64 0, .int .i64 0, .int .i64 0, .int .i64 0, .int .i64 0, .int .i64 0, .int .i64 0, .int .i64 0, .int .i64 0, .int .i64 0, .int .i64 0, .int .i64 0, .int .i64 0, .int .i64 0, .int .i64 0, .int .i64 0, .int .i64 0]
abbrev finL (p : Nat) (text : ByteArray) (sb : Nat) : List Value := [.pointer (some ⟨p, 0, none⟩), .string text, .int .i64 0, .slice none 0 0, .slice none 0 0, .slice none 0 0, .slice (some ⟨sb, 0, none⟩) 2 2, .bool false, .int .i64 0, .int .i64 0, .int .i64 0, .int .i64 0, .int .i64 0, .int .i64 0, .int .i64 0, .int .i64 0, .int .i64 0, .int .i64 0, .int .i64 0, .int .i64 0, .int .i64 0, .int .i64 0, .int .i64 0, .int .i64 0, .int .i64 0, .int .i64 0, .int .i64 0, .int .i64 0]
theorem fin_one (p : Nat) (text : ByteArray) (sb : Nat) : ∀ u ∈ finL p text sb, u.oneCell' = true := by
  intro u hu
  simp only [finL, List.mem_cons, List.not_mem_nil, or_false] at hu
  rcases hu with h | h | h | h | h | h | h | h | h | h | h | h | h | h | h | h | h | h | h | h | h | h | h | h | h | h | h | h <;> subst h <;> rfl
theorem Tryd.szFinder : (Tryd.prog.info? 54).map (·.size) = some 28 := by kernel_rfl
theorem there_new (W : World) : ((W.alloc (.cells zeroF 54)).drew).there W.heap.size 0 28 := fun j hj => by
  rw [Nat.zero_add]
  have h := range_new W zeroF 54 j (zeroF.toList[j]'hj) (List.getElem?_eq_getElem hj)
  rw [Nat.zero_add] at h
  refine ⟨?_, ?_⟩
  · show ((W.alloc (.cells zeroF 54)).cell? _).isSome = true
    rw [h]; rfl
  · show (W.alloc (.cells zeroF 54)).frozen? _ = false
    simp

theorem there_old {w : World} {b k n : Nat} (h : (w.drew).there b k n) (o : Obj) : ((w.alloc o).drew).there b k n := fun j hj => by
  have q := h j hj
  obtain ⟨u, hu⟩ := Option.isSome_iff_exists.1 q.1
  have hlt := World.block_lt_of_cell? _ _ (show w.cell? ⟨b, k + j, none⟩ = some u from hu)
  refine ⟨?_, ?_⟩
  · rw [cell_ad (w := w) hu o]; rfl
  · exact ((Kp.alloc [] w o).frozen hlt (by simp)).trans q.2

theorem cell_al {w : World} {a : Addr} {v : Value} (h : w.cell? a = some v) (o : Obj) : (w.alloc o).cell? a = some v :=
  ((Kp.alloc [] w o).cell (World.block_lt_of_cell? _ _ h) (by simp)).trans h
theorem news_al (W : World) (l : List Value) (t : TypeId) (a : Nat) (ha : a = W.heap.size) : ∀ j u, l[j]? = some u → (W.alloc (.cells l.toArray t)).cell? ((⟨a, 0, none⟩ : Addr).add j) = some u := news_cells W l t a ha


theorem fs0_of {w W0 : World} {f p sb : Nat} {text : ByteArray} (kp : Kp [] w W0) (flo : w.heap.size ≤ f) (slo : w.heap.size ≤ sb) (ne : sb ≠ f) (hth : W0.there f 0 28) (hfr : ∀ i, W0.frozen? ⟨f, i, none⟩ = false)
    (hs : ∀ i, i < 2 → W0.cell? ⟨sb, i, none⟩ = some (.int .i64 0) ∧ W0.frozen? ⟨sb, i, none⟩ = false) : Fs w (W0.setCells f 0 (finL p text sb).toArray.toList) f p sb 0 0 0 0 text (.slice none 0 0) (.slice none 0 0) (.slice none 0 0) [] [] false := by
  have hr := World.rangeAt_setCells_same W0 f 0 (finL p text sb) hth
  have k := Kp.setCells (S := [f]) (b := f) (by simp) (finL p text sb).toArray.toList 0 W0
  have slt := World.block_lt_of_cell? _ _ (hs 0 (by omega)).1
  refine ⟨Kp.own (x := f) ((kp.mono (by simp)).trans k) flo, flo, slo, ne, hr 0 _ rfl, hr 1 _ rfl, hr 2 _ rfl, hr 3 _ rfl, hr 4 _ rfl, hr 5 _ rfl, hr 6 _ rfl, hr 7 _ rfl, fun j hj => ?_, fun i => ?_, fun i hi => ?_, World.ownsRow_nil _ _ _ _, World.ownsRow_nil _ _ _ _, World.ownsRow_nil _ _ _ _, fun k hk => (by cases hk), fun k hk => (by cases hk), fun k hk => (by cases hk), .inl rfl⟩
  · have hj28 : 8 + j < (finL p text sb).length := by show 8 + j < 28; omega
    have e := hr (8 + j) _ (List.getElem?_eq_getElem hj28)
    rw [Nat.zero_add] at e
    rw [show (finL p text sb).toArray.toList = finL p text sb from rfl, e]; rfl
  · rw [World.frozen?_setCells]; exact hfr i
  · have hn : sb ∉ [f] := by simpa using ne
    exact ⟨0, (k.cell (p := ⟨sb, i, none⟩) slt hn).trans (hs i hi).1, by simp, (k.frozen (p := ⟨sb, i, none⟩) slt hn).trans (hs i hi).2⟩

theorem pf_of {w : World} {B p : Nat} {m : Nat → Bool} (pt : Pt B w p 2 1 0 0 (ins0 6 0 0 0 0 ++ ins 0 0 0 0 0 m)) : ∃ g c, Pf w p g c m := by
  obtain ⟨g, c, p0, own⟩ := pt.code
  have hr := row_at own
  have hl := (own.lt g rfl).2
  refine ⟨g, c, pt.lt, hl, p0, pt.c1, pt.c2, pt.c3, ⟨hr 9 _ rfl, hr 10 _ rfl, hr 13 _ rfl, hr 14 _ rfl, hr 15 _ rfl, hr 16 _ rfl, hr 17 _ rfl⟩, hr 0 _ rfl⟩

set_option maxRecDepth 100000 in
set_option maxHeartbeats 4000000 in
theorem find_one : FindSaid := by
  intro w p B y m pt
  obtain ⟨g, c, pf⟩ := pf_of pt
  have hmk := make_two
  have htl : (ByteArray.mk #[y]).size = 1 := rfl
  have p0 := pf.p0
  have p3 := pf.p3
  have PF := hid pf
  clear pf pt
  go_enter Tryd.func16, Tryd.ntmps16
  go_wp2
  have hw1 : IntKind.i64.wrap 1 = 1 := rfl
  have hw2 : IntKind.i64.wrap 2 = 2 := rfl
  refine wp_region_noPanic ?_
  refine wp_region_T (fun w' : World => w'.cell? ⟨p, 0, none⟩ = some (.slice (some ⟨g, 0, none⟩) 2 c) ∧ w'.cell? ⟨p, 3, none⟩ = some (.int .i64 0)) 16 (by kernel_rfl) ?_
  have hS : (fun w' : World => w'.cell? ⟨p, 0, none⟩ = some (.slice (some ⟨g, 0, none⟩) 2 c) ∧ w'.cell? ⟨p, 3, none⟩ = some (.int .i64 0)) w.drew := ⟨p0, p3⟩
  refine wpAnyT_take (i := 0) (v := ?v0) rfl (by kernel_rfl) (by kernel_rfl) (by kernel_rfl) (by kernel_rfl) (fun _ _ _ h => h) (Or.inl ⟨by rfl, ?y0⟩) hS ?_
  case y0 => (intro w hSw; (try dsimp only at hSw); go_simp; (try with_reducible rfl))
  simp only [List.getElem_toArray, List.getElem_cons_zero, Act.put, List.setIfInBounds_toArray, List.set_cons_zero, List.set_cons_succ]
  refine wpAnyT_take (i := 1) (v := ?v1) rfl (by kernel_rfl) (by kernel_rfl) (by kernel_rfl) (by kernel_rfl) (fun _ _ _ h => h) (Or.inl ⟨by rfl, ?y1⟩) hS ?_
  case y1 => (intro w hSw; (try dsimp only at hSw); go_simp; (try with_reducible rfl))
  simp only [List.getElem_toArray, List.getElem_cons_succ, List.getElem_cons_zero, Act.put, List.setIfInBounds_toArray, List.set_cons_zero, List.set_cons_succ]
  refine wpAnyT_take (i := 2) (v := ?v2) rfl (by kernel_rfl) (by kernel_rfl) (by kernel_rfl) (by kernel_rfl) (fun _ _ _ h => h) (Or.inl ⟨by rfl, ?y2⟩) hS ?_
  case y2 => (intro w hSw; (try dsimp only at hSw); go_simp; (try with_reducible rfl))
  simp only [List.getElem_toArray, List.getElem_cons_succ, List.getElem_cons_zero, Act.put, List.setIfInBounds_toArray, List.set_cons_zero, List.set_cons_succ]
  refine wpAnyT_take (i := 3) (v := ?v3) rfl (by kernel_rfl) (by kernel_rfl) (by kernel_rfl) (by kernel_rfl) (fun _ _ _ h => h) (Or.inl ⟨by rfl, ?y3⟩) hS ?_
  case y3 => (intro w hSw; (try dsimp only at hSw); go_simp; (try with_reducible rfl))
  simp only [List.getElem_toArray, List.getElem_cons_succ, List.getElem_cons_zero, Act.put, List.setIfInBounds_toArray, List.set_cons_zero, List.set_cons_succ]
  refine wpAnyT_take (i := 4) (v := ?v4) rfl (by kernel_rfl) (by kernel_rfl) (by kernel_rfl) (by kernel_rfl) (fun _ _ _ h => h) (Or.inl ⟨by rfl, ?y4⟩) hS ?_
  case y4 => (intro w hSw; (try dsimp only at hSw); go_simp; (try with_reducible rfl))
  simp only [List.getElem_toArray, List.getElem_cons_succ, List.getElem_cons_zero, Act.put, List.setIfInBounds_toArray, List.set_cons_zero, List.set_cons_succ]
  refine wpAnyT_take (i := 5) (v := ?v5) rfl (by kernel_rfl) (by kernel_rfl) (by kernel_rfl) (by kernel_rfl) (fun _ _ _ h => h) (Or.inl ⟨by rfl, ?y5⟩) hS ?_
  case y5 => (intro w hSw; (try dsimp only at hSw); go_simp; (try with_reducible rfl))
  simp only [List.getElem_toArray, List.getElem_cons_succ, List.getElem_cons_zero, Act.put, List.setIfInBounds_toArray, List.set_cons_zero, List.set_cons_succ]
  refine wpAnyT_take (i := 6) (v := ?v6) rfl (by kernel_rfl) (by kernel_rfl) (by kernel_rfl) (by kernel_rfl) (fun _ _ _ h => h) (Or.inl ⟨by rfl, ?y6⟩) hS ?_
  case y6 => (intro w hSw; (try dsimp only at hSw); go_simp; (try with_reducible rfl))
  simp only [List.getElem_toArray, List.getElem_cons_succ, List.getElem_cons_zero, Act.put, List.setIfInBounds_toArray, List.set_cons_zero, List.set_cons_succ]
  refine wpAnyT_take (i := 7) (v := ?v7) rfl (by kernel_rfl) (by kernel_rfl) (by kernel_rfl) (by kernel_rfl) (fun _ _ _ h => h) (Or.inl ⟨by rfl, ?y7⟩) hS ?_
  case y7 => (intro w hSw; (try dsimp only at hSw); go_simp; (try with_reducible rfl))
  simp only [List.getElem_toArray, List.getElem_cons_succ, List.getElem_cons_zero, Act.put, List.setIfInBounds_toArray, List.set_cons_zero, List.set_cons_succ]
  refine wpAnyT_take (i := 8) (v := ?v8) rfl (by kernel_rfl) (by kernel_rfl) (by kernel_rfl) (by kernel_rfl) (fun _ _ _ h => h) (Or.inl ⟨by rfl, ?y8⟩) hS ?_
  case y8 => (intro w hSw; (try dsimp only at hSw); go_simp; (try with_reducible rfl))
  simp only [List.getElem_toArray, List.getElem_cons_succ, List.getElem_cons_zero, Act.put, List.setIfInBounds_toArray, List.set_cons_zero, List.set_cons_succ]
  refine wpAnyT_take (i := 9) (v := ?v9) rfl (by kernel_rfl) (by kernel_rfl) (by kernel_rfl) (by kernel_rfl) (fun _ _ _ h => h) (Or.inl ⟨by rfl, ?y9⟩) hS ?_
  case y9 => (intro w hSw; (try dsimp only at hSw); go_simp; (try with_reducible rfl))
  simp only [List.getElem_toArray, List.getElem_cons_succ, List.getElem_cons_zero, Act.put, List.setIfInBounds_toArray, List.set_cons_zero, List.set_cons_succ]
  refine wpAnyT_take (i := 10) (v := ?v10) rfl (by kernel_rfl) (by kernel_rfl) (by kernel_rfl) (by kernel_rfl) (fun _ _ _ h => h) (Or.inl ⟨by rfl, ?y10⟩) hS ?_
  case y10 => (intro w hSw; (try dsimp only at hSw); go_simp; (try with_reducible rfl))
  simp only [List.getElem_toArray, List.getElem_cons_succ, List.getElem_cons_zero, Act.put, List.setIfInBounds_toArray, List.set_cons_zero, List.set_cons_succ]
  refine wpAnyT_take (i := 11) (v := ?v11) rfl (by kernel_rfl) (by kernel_rfl) (by kernel_rfl) (by kernel_rfl) (fun _ _ _ h => h) (Or.inl ⟨by rfl, ?y11⟩) hS ?_
  case y11 => (intro w hSw; (try dsimp only at hSw); go_simp; (try with_reducible rfl))
  simp only [List.getElem_toArray, List.getElem_cons_succ, List.getElem_cons_zero, Act.put, List.setIfInBounds_toArray, List.set_cons_zero, List.set_cons_succ]
  refine wpAnyT_take (i := 12) (v := ?v12) rfl (by kernel_rfl) (by kernel_rfl) (by kernel_rfl) (by kernel_rfl) (fun _ _ _ h => h) (Or.inl ⟨by rfl, ?y12⟩) hS ?_
  case y12 => (intro w hSw; (try dsimp only at hSw); go_simp; (try with_reducible rfl))
  simp only [List.getElem_toArray, List.getElem_cons_succ, List.getElem_cons_zero, Act.put, List.setIfInBounds_toArray, List.set_cons_zero, List.set_cons_succ]
  refine wpAnyT_two (i := 13) (j := 15) (by kernel_rfl) rfl rfl (fun K hK => ?_) (fun K hK => ?_)
  · go_simp
    have hS1 : (fun w' : World => w'.cell? ⟨p, 0, none⟩ = some (.slice (some ⟨g, 0, none⟩) 2 c) ∧ w'.cell? ⟨p, 3, none⟩ = some (.int .i64 0)) ((w.alloc (.cells #[.int .i64 0, .int .i64 0] 3)).drew) := ⟨cell_ad p0 _, cell_ad p3 _⟩
    refine hK.out _ _ (.inr hS1) ?_
    clear hK K
    refine wpAnyT_take (i := 14) (v := ?v14a) rfl (by kernel_rfl) (by kernel_rfl) (by kernel_rfl) (by kernel_rfl) (fun _ _ _ h => h) (Or.inl ⟨by rfl, ?y14a⟩) hS1 ?_
    case y14a => (intro w hSw; (try dsimp only at hSw); go_simp; (try with_reducible rfl))
    simp only [List.getElem_toArray, List.getElem_cons_succ, List.getElem_cons_zero, Act.put, List.setIfInBounds_toArray, List.set_cons_zero, List.set_cons_succ]
    refine wpAnyT_one (i := 15) (by kernel_rfl) rfl (fun K hK => ?_)
    go_simp
    refine hK.out _ _ (.inr ⟨cell_ad (w := w.alloc (.cells #[.int .i64 0, .int .i64 0] 3)) hS1.1 _, cell_ad (w := w.alloc (.cells #[.int .i64 0, .int .i64 0] 3)) hS1.2 _⟩) ?_
    clear hK K
    refine wpAnyT_one (i := 16) (by kernel_rfl) rfl (fun K hK => ?_)
    rw [if_pos (by rfl)]
    refine wp_store_mid 54 (.tmp 5) (.tmp 21) rfl (w.heap.size + 1) 0 (finL p (ByteArray.mk #[y]) w.heap.size).toArray rfl rfl ?hth Tryd.szFinder (all_oneCell_toArray (fin_one p (ByteArray.mk #[y]) w.heap.size)) ?_
    case hth => (have := there_new (w.alloc (.cells #[.int .i64 0, .int .i64 0] 3)); simpa using this)
    refine hK.out _ _ (.inl rfl) ?_
    clear hK K
    refine wpAnyT_done (by kernel_rfl) ?_ _
    refine NoPanic.normal ?_
    have fs : Fs w ((((w.alloc (.cells #[.int .i64 0, .int .i64 0] 3)).alloc (.cells zeroF 54)).drew).setCells (w.heap.size + 1) 0 (finL p (ByteArray.mk #[y]) w.heap.size).toArray.toList) (w.heap.size + 1) p (w.heap.size) 0 0 0 0 (ByteArray.mk #[y]) (.slice none 0 0) (.slice none 0 0) (.slice none 0 0) [] [] false := by
      refine fs0_of ((Kp.alloc _ _ _).trans ((Kp.alloc _ _ _).trans (Kp.drew _ _))) (by omega) (by omega) (by omega) ?_ ?_ ?_
      · have := there_new (w.alloc (.cells #[.int .i64 0, .int .i64 0] 3)); simpa using this
      · intro i; simp
      · intro i hi
        match i, hi with
        | 0, _ => exact ⟨by simp [go_sem], by simp [go_sem]⟩
        | 1, _ => exact ⟨by simp [go_sem], by simp [go_sem]⟩
    generalize (((w.alloc (.cells #[.int .i64 0, .int .i64 0] 3)).alloc (.cells zeroF 54)).drew).setCells (w.heap.size + 1) 0 (finL p (ByteArray.mk #[y]) w.heap.size).toArray.toList = W at *
    clear hS hS1
    generalize w.heap.size + 1 = f at *
    generalize w.heap.size = sb at *
    have FS := hid fs
    clear fs hmk hw1 hw2 p0 p3
    have d1 := FS.out.c1
    have d2 : W.cell? ⟨f, 2, none⟩ = some (.int .i64 0) := FS.out.c2
    have d7 := FS.out.c7
    obtain ⟨ti, hi, hz0, hz1, hz2⟩ := info_parts Tryd.infoTh
    have HI := hid hi
    have HZ := hid (And.intro hz0 (And.intro hz1 hz2))
    clear hi hz0 hz1 hz2
    go_wp2
    refine wp_loop_rounds 3 ?_
    rw [rounds_succ]
    go_wp2_with fail
    clear d1 d2 d7
    have d3a := FS.out.c3
    have d2a : W.cell? ⟨f, 2, none⟩ = some (.int .i64 0) := FS.out.c2
    have e3a := FS.out.free 3
    have q1a := (PF.out.keep FS.out.kp).p1
    refine wp_region_noPanic ?_
    refine wp_region_T (fun w' : World => w'.cell? ⟨f, 3, none⟩ = some (.slice none 0 0) ∧ w'.cell? ⟨p, 1, none⟩ = some (.int .i64 1) ∧ w'.cell? ⟨f, 2, none⟩ = some (.int .i64 0)) 13 (by kernel_rfl) ?_
    have hSa : (fun w' : World => w'.cell? ⟨f, 3, none⟩ = some (.slice none 0 0) ∧ w'.cell? ⟨p, 1, none⟩ = some (.int .i64 1) ∧ w'.cell? ⟨f, 2, none⟩ = some (.int .i64 0)) W.drew := ⟨d3a, q1a, d2a⟩
    refine wpAnyT_take (i := 0) (v := ?v0ap) rfl (by kernel_rfl) (by kernel_rfl) (by kernel_rfl) (by kernel_rfl) (fun _ _ _ h => h) (Or.inl ⟨by rfl, ?y0ap⟩) hSa ?_
    case y0ap => (intro w hSw; (try dsimp only at hSw); go_simp; (try with_reducible rfl))
    simp only [List.getElem_toArray, List.getElem_cons_zero, Act.put, List.setIfInBounds_toArray, List.set_cons_zero, List.set_cons_succ]
    refine wpAnyT_take (i := 1) (v := ?v1ap) rfl (by kernel_rfl) (by kernel_rfl) (by kernel_rfl) (by kernel_rfl) (fun _ _ _ h => h) (Or.inl ⟨by rfl, ?y1ap⟩) hSa ?_
    case y1ap => (intro w hSw; (try dsimp only at hSw); go_simp; (try with_reducible rfl))
    simp only [List.getElem_toArray, List.getElem_cons_succ, List.getElem_cons_zero, Act.put, List.setIfInBounds_toArray, List.set_cons_zero, List.set_cons_succ]
    refine wpAnyT_take (i := 2) (v := ?v2ap) rfl (by kernel_rfl) (by kernel_rfl) (by kernel_rfl) (by kernel_rfl) (fun _ _ _ h => h) (Or.inl ⟨by rfl, ?y2ap⟩) hSa ?_
    case y2ap => (intro w hSw; (try dsimp only at hSw); go_simp; (try with_reducible rfl))
    simp only [List.getElem_toArray, List.getElem_cons_succ, List.getElem_cons_zero, Act.put, List.setIfInBounds_toArray, List.set_cons_zero, List.set_cons_succ]
    refine wpAnyT_take (i := 3) (v := ?v3ap) rfl (by kernel_rfl) (by kernel_rfl) (by kernel_rfl) (by kernel_rfl) (fun _ _ _ h => h) (Or.inl ⟨by rfl, ?y3ap⟩) hSa ?_
    case y3ap => (intro w hSw; (try dsimp only at hSw); go_simp; (try with_reducible rfl))
    simp only [List.getElem_toArray, List.getElem_cons_succ, List.getElem_cons_zero, Act.put, List.setIfInBounds_toArray, List.set_cons_zero, List.set_cons_succ]
    refine wpAnyT_take (i := 4) (v := ?v4ap) rfl (by kernel_rfl) (by kernel_rfl) (by kernel_rfl) (by kernel_rfl) (fun _ _ _ h => h) (Or.inl ⟨by rfl, ?y4ap⟩) hSa ?_
    case y4ap => (intro w hSw; (try dsimp only at hSw); go_simp; (try with_reducible rfl))
    simp only [List.getElem_toArray, List.getElem_cons_succ, List.getElem_cons_zero, Act.put, List.setIfInBounds_toArray, List.set_cons_zero, List.set_cons_succ]
    refine wpAnyT_take (i := 5) (v := ?v5ap) rfl (by kernel_rfl) (by kernel_rfl) (by kernel_rfl) (by kernel_rfl) (fun _ _ _ h => h) (Or.inl ⟨by rfl, ?y5ap⟩) hSa ?_
    case y5ap => (intro w hSw; (try dsimp only at hSw); go_simp; (try with_reducible rfl))
    simp only [List.getElem_toArray, List.getElem_cons_succ, List.getElem_cons_zero, Act.put, List.setIfInBounds_toArray, List.set_cons_zero, List.set_cons_succ]
    refine wpAnyT_take (i := 6) (v := ?v6ap) rfl (by kernel_rfl) (by kernel_rfl) (by kernel_rfl) (by kernel_rfl) (fun _ _ _ h => h) (Or.inl ⟨by rfl, ?y6ap⟩) hSa ?_
    case y6ap => (intro w hSw; (try dsimp only at hSw); go_simp; (try with_reducible rfl))
    simp only [List.getElem_toArray, List.getElem_cons_succ, List.getElem_cons_zero, Act.put, List.setIfInBounds_toArray, List.set_cons_zero, List.set_cons_succ]
    refine wpAnyT_take (i := 7) (v := ?v7ap) rfl (by kernel_rfl) (by kernel_rfl) (by kernel_rfl) (by kernel_rfl) (fun _ _ _ h => h) (Or.inl ⟨by rfl, ?y7ap⟩) hSa ?_
    case y7ap => (intro w hSw; (try dsimp only at hSw); go_simp; (try with_reducible rfl))
    simp only [List.getElem_toArray, List.getElem_cons_succ, List.getElem_cons_zero, Act.put, List.setIfInBounds_toArray, List.set_cons_zero, List.set_cons_succ]
    refine wpAnyT_one (i := 8) (by kernel_rfl) rfl (fun K hK => ?_)
    go_simp
    refine (noted_any 0 _).mono ?_
    rintro e w1a ⟨rfl, k1a⟩
    have S1a : (fun w' : World => w'.cell? ⟨f, 3, none⟩ = some (.slice none 0 0) ∧ w'.cell? ⟨p, 1, none⟩ = some (.int .i64 1) ∧ w'.cell? ⟨f, 2, none⟩ = some (.int .i64 0)) w1a := ⟨(k1a.cell (World.block_lt_of_cell? _ _ d3a) (by simp)).trans d3a, (k1a.cell (World.block_lt_of_cell? _ _ q1a) (by simp)).trans q1a, (k1a.cell (World.block_lt_of_cell? _ _ d2a) (by simp)).trans d2a⟩
    have g3a : w1a.frozen? ⟨f, 3, none⟩ = false := (k1a.frozen (p := ⟨f, 3, none⟩) (World.block_lt_of_cell? _ _ d3a) (by simp)).trans e3a
    have KKa : Hid (Kp [] W w1a) := hid ((Kp.drew _ _).trans k1a)
    have F1a := hid (FS.out.keep KKa.out)
    clear k1a
    refine hK.out _ _ (.inr S1a) ?_
    clear hK K
    refine wpAnyT_take (i := 9) (v := ?v9ap) rfl (by kernel_rfl) (by kernel_rfl) (by kernel_rfl) (by kernel_rfl) (fun _ _ _ h => h) (Or.inl ⟨by rfl, ?y9ap⟩) S1a ?_
    case y9ap => (intro w hSw; (try dsimp only at hSw); go_simp; (try with_reducible rfl))
    simp only [List.getElem_toArray, List.getElem_cons_succ, List.getElem_cons_zero, Act.put, List.setIfInBounds_toArray, List.set_cons_zero, List.set_cons_succ]
    refine wpAnyT_one (i := 10) (by kernel_rfl) rfl (fun K hK => ?_)
    go_simp
    refine hK.out _ _ (.inr ⟨cell_al S1a.1 _, cell_al S1a.2.1 _, cell_al S1a.2.2 _⟩) ?_
    clear hK K
    refine wpAnyT_one (i := 11) (by kernel_rfl) rfl (fun K hK => ?_)
    refine step_append2 (by rfl) (.tmp 35) (.tmp 44) 50 (by rfl) w.heap.size 57 ti _ 22 176 Tryd.underlying50 HI.out HZ.out.1 HZ.out.2.1 HZ.out.2.2 rfl (by decide) (.slice none 0 0) 0 ([]) (by rfl) (F1a.out.o3.alloc _) ⟨w1a.heap.size, 0, none⟩ 1 1 (th 1 0 0) (by rfl) rfl (news_al w1a _ _ _ rfl) (th_one 1 0 0) (by unfold maxLen; omega) (by omega) (Nat.le_trans F1a.out.kp.size (by simp)) (by decide) ?_
    intro gha cha w2a own2a grow2a or2a
    have fnea : some f ≠ (Value.ownBlock (.slice none 0 0)) := fun e => (F1a.out.x3 f e.symm).1 rfl
    have pnea : some p ≠ (Value.ownBlock (.slice none 0 0)) := own_ne F1a.out.o3 PF.out.hp
    have S2a : (fun w' : World => w'.cell? ⟨f, 3, none⟩ = some (.slice none 0 0) ∧ w'.cell? ⟨p, 1, none⟩ = some (.int .i64 1) ∧ w'.cell? ⟨f, 2, none⟩ = some (.int .i64 0)) w2a := ⟨grown_cell' grow2a fnea (cell_al S1a.1 _), grown_cell' grow2a pnea (cell_al S1a.2.1 _), grown_cell' grow2a fnea (cell_al S1a.2.2 _)⟩
    refine hK.out _ _ (.inr S2a) ?_
    clear hK K
    refine wpAnyT_one (i := 12) (by kernel_rfl) rfl (fun K hK => ?_)
    go_simp
    refine hK.out _ _ (.inr S2a) ?_
    clear hK K
    have s23a := S2a.1
    have sf3a : w2a.frozen? ⟨f, 3, none⟩ = false := (grown_free' grow2a (p := ⟨f, 3, none⟩) fnea (World.block_lt_of_cell? _ _ (cell_al S1a.1 _))).trans (((Kp.alloc [] w1a _).frozen (World.block_lt_of_cell? _ _ S1a.1) (by simp)).trans g3a)
    have FT := hid (FS.out.here (KKa.out.trans (Kp.alloc _ _ _)) grow2a own2a or2a)
    clear own2a grow2a or2a S2a S1a hSa d2a d3a q1a fnea pnea F1a KKa
    refine wpAnyT_one (i := 13) (by kernel_rfl) rfl (fun K hK => ?_)
    go_simp
    refine hK.out _ _ (.inl rfl) ?_
    clear hK K
    refine wpAnyT_done (by kernel_rfl) ?_ _
    refine NoPanic.normal ?_
    generalize w2a.setCell ⟨f, 3, none⟩ (.slice (some ⟨gha, 0, none⟩) 1 cha) = W2 at *
    clear s23a sf3a g3a e3a
    have d3 := FT.out.c3
    go_wp2_with fail
    clear d3
    have hpl : (0 : Nat) < (ByteArray.mk #[y]).size := by rw [htl]; omega
    by_cases hm : m y.toNat = true
    · refine (goOn_hit FT.out PF.out (by omega) hpl hm).mono ?_
      rintro e W3 ⟨rfl, g', c', u5, ft⟩
      have FU := hid ft
      clear ft
      have d2 : W3.cell? ⟨f, 2, none⟩ = some (.int .i64 0) := FU.out.c2
      have d1 := FU.out.c1
      have d7 := FU.out.c7
      have e2 := FU.out.free 2
      go_wp2_with fail
      have FV : Hid (Fs w (W3.setCell ⟨f, 2, none⟩ (.int .i64 1)) f p sb 1 1 1 0 (ByteArray.mk #[y]) (.slice (some ⟨g', 0, none⟩) 1 c') (.slice (some ⟨gha, 0, none⟩) 0 cha) u5 (th 0 0 0) [] false) := hid (FU.out.place 1)
      clear d1 d2 d7 e2 FU
      generalize W3.setCell ⟨f, 2, none⟩ (.int .i64 1) = W4 at *
      have d1 := FV.out.c1
      have d2 : W4.cell? ⟨f, 2, none⟩ = some (.int .i64 1) := FV.out.c2
      have d7 := FV.out.c7
      rw [rounds_succ]
      go_wp2_with fail
      clear d1 d2 d7
      have d3b := FV.out.c3
      have d2b : W4.cell? ⟨f, 2, none⟩ = some (.int .i64 1) := FV.out.c2
      have e3b := FV.out.free 3
      have q1b := (PF.out.keep FV.out.kp).p1
      refine wp_region_noPanic ?_
      refine wp_region_T (fun w' : World => w'.cell? ⟨f, 3, none⟩ = some (.slice (some ⟨g', 0, none⟩) 1 c') ∧ w'.cell? ⟨p, 1, none⟩ = some (.int .i64 1) ∧ w'.cell? ⟨f, 2, none⟩ = some (.int .i64 1)) 13 (by kernel_rfl) ?_
      have hSb : (fun w' : World => w'.cell? ⟨f, 3, none⟩ = some (.slice (some ⟨g', 0, none⟩) 1 c') ∧ w'.cell? ⟨p, 1, none⟩ = some (.int .i64 1) ∧ w'.cell? ⟨f, 2, none⟩ = some (.int .i64 1)) W4.drew := ⟨d3b, q1b, d2b⟩
      refine wpAnyT_take (i := 0) (v := ?v0bp) rfl (by kernel_rfl) (by kernel_rfl) (by kernel_rfl) (by kernel_rfl) (fun _ _ _ h => h) (Or.inl ⟨by rfl, ?y0bp⟩) hSb ?_
      case y0bp => (intro w hSw; (try dsimp only at hSw); go_simp; (try with_reducible rfl))
      simp only [List.getElem_toArray, List.getElem_cons_zero, Act.put, List.setIfInBounds_toArray, List.set_cons_zero, List.set_cons_succ]
      refine wpAnyT_take (i := 1) (v := ?v1bp) rfl (by kernel_rfl) (by kernel_rfl) (by kernel_rfl) (by kernel_rfl) (fun _ _ _ h => h) (Or.inl ⟨by rfl, ?y1bp⟩) hSb ?_
      case y1bp => (intro w hSw; (try dsimp only at hSw); go_simp; (try with_reducible rfl))
      simp only [List.getElem_toArray, List.getElem_cons_succ, List.getElem_cons_zero, Act.put, List.setIfInBounds_toArray, List.set_cons_zero, List.set_cons_succ]
      refine wpAnyT_take (i := 2) (v := ?v2bp) rfl (by kernel_rfl) (by kernel_rfl) (by kernel_rfl) (by kernel_rfl) (fun _ _ _ h => h) (Or.inl ⟨by rfl, ?y2bp⟩) hSb ?_
      case y2bp => (intro w hSw; (try dsimp only at hSw); go_simp; (try with_reducible rfl))
      simp only [List.getElem_toArray, List.getElem_cons_succ, List.getElem_cons_zero, Act.put, List.setIfInBounds_toArray, List.set_cons_zero, List.set_cons_succ]
      refine wpAnyT_take (i := 3) (v := ?v3bp) rfl (by kernel_rfl) (by kernel_rfl) (by kernel_rfl) (by kernel_rfl) (fun _ _ _ h => h) (Or.inl ⟨by rfl, ?y3bp⟩) hSb ?_
      case y3bp => (intro w hSw; (try dsimp only at hSw); go_simp; (try with_reducible rfl))
      simp only [List.getElem_toArray, List.getElem_cons_succ, List.getElem_cons_zero, Act.put, List.setIfInBounds_toArray, List.set_cons_zero, List.set_cons_succ]
      refine wpAnyT_take (i := 4) (v := ?v4bp) rfl (by kernel_rfl) (by kernel_rfl) (by kernel_rfl) (by kernel_rfl) (fun _ _ _ h => h) (Or.inl ⟨by rfl, ?y4bp⟩) hSb ?_
      case y4bp => (intro w hSw; (try dsimp only at hSw); go_simp; (try with_reducible rfl))
      simp only [List.getElem_toArray, List.getElem_cons_succ, List.getElem_cons_zero, Act.put, List.setIfInBounds_toArray, List.set_cons_zero, List.set_cons_succ]
      refine wpAnyT_take (i := 5) (v := ?v5bp) rfl (by kernel_rfl) (by kernel_rfl) (by kernel_rfl) (by kernel_rfl) (fun _ _ _ h => h) (Or.inl ⟨by rfl, ?y5bp⟩) hSb ?_
      case y5bp => (intro w hSw; (try dsimp only at hSw); go_simp; (try with_reducible rfl))
      simp only [List.getElem_toArray, List.getElem_cons_succ, List.getElem_cons_zero, Act.put, List.setIfInBounds_toArray, List.set_cons_zero, List.set_cons_succ]
      refine wpAnyT_take (i := 6) (v := ?v6bp) rfl (by kernel_rfl) (by kernel_rfl) (by kernel_rfl) (by kernel_rfl) (fun _ _ _ h => h) (Or.inl ⟨by rfl, ?y6bp⟩) hSb ?_
      case y6bp => (intro w hSw; (try dsimp only at hSw); go_simp; (try with_reducible rfl))
      simp only [List.getElem_toArray, List.getElem_cons_succ, List.getElem_cons_zero, Act.put, List.setIfInBounds_toArray, List.set_cons_zero, List.set_cons_succ]
      refine wpAnyT_take (i := 7) (v := ?v7bp) rfl (by kernel_rfl) (by kernel_rfl) (by kernel_rfl) (by kernel_rfl) (fun _ _ _ h => h) (Or.inl ⟨by rfl, ?y7bp⟩) hSb ?_
      case y7bp => (intro w hSw; (try dsimp only at hSw); go_simp; (try with_reducible rfl))
      simp only [List.getElem_toArray, List.getElem_cons_succ, List.getElem_cons_zero, Act.put, List.setIfInBounds_toArray, List.set_cons_zero, List.set_cons_succ]
      refine wpAnyT_one (i := 8) (by kernel_rfl) rfl (fun K hK => ?_)
      go_simp
      refine (noted_any 1 _).mono ?_
      rintro e w1b ⟨rfl, k1b⟩
      have S1b : (fun w' : World => w'.cell? ⟨f, 3, none⟩ = some (.slice (some ⟨g', 0, none⟩) 1 c') ∧ w'.cell? ⟨p, 1, none⟩ = some (.int .i64 1) ∧ w'.cell? ⟨f, 2, none⟩ = some (.int .i64 1)) w1b := ⟨(k1b.cell (World.block_lt_of_cell? _ _ d3b) (by simp)).trans d3b, (k1b.cell (World.block_lt_of_cell? _ _ q1b) (by simp)).trans q1b, (k1b.cell (World.block_lt_of_cell? _ _ d2b) (by simp)).trans d2b⟩
      have g3b : w1b.frozen? ⟨f, 3, none⟩ = false := (k1b.frozen (p := ⟨f, 3, none⟩) (World.block_lt_of_cell? _ _ d3b) (by simp)).trans e3b
      have KKb : Hid (Kp [] W4 w1b) := hid ((Kp.drew _ _).trans k1b)
      have F1b := hid (FV.out.keep KKb.out)
      clear k1b
      refine hK.out _ _ (.inr S1b) ?_
      clear hK K
      refine wpAnyT_take (i := 9) (v := ?v9bp) rfl (by kernel_rfl) (by kernel_rfl) (by kernel_rfl) (by kernel_rfl) (fun _ _ _ h => h) (Or.inl ⟨by rfl, ?y9bp⟩) S1b ?_
      case y9bp => (intro w hSw; (try dsimp only at hSw); go_simp; (try with_reducible rfl))
      simp only [List.getElem_toArray, List.getElem_cons_succ, List.getElem_cons_zero, Act.put, List.setIfInBounds_toArray, List.set_cons_zero, List.set_cons_succ]
      refine wpAnyT_one (i := 10) (by kernel_rfl) rfl (fun K hK => ?_)
      go_simp
      refine hK.out _ _ (.inr ⟨cell_al S1b.1 _, cell_al S1b.2.1 _, cell_al S1b.2.2 _⟩) ?_
      clear hK K
      refine wpAnyT_one (i := 11) (by kernel_rfl) rfl (fun K hK => ?_)
      refine step_append2 (by rfl) (.tmp 35) (.tmp 44) 50 (by rfl) w.heap.size 57 ti _ 22 176 Tryd.underlying50 HI.out HZ.out.1 HZ.out.2.1 HZ.out.2.2 rfl (by decide) (.slice (some ⟨g', 0, none⟩) 1 c') 1 (th 0 0 0) (by rfl) (F1b.out.o3.alloc _) ⟨w1b.heap.size, 0, none⟩ 1 1 (th 1 0 1) (by rfl) rfl (news_al w1b _ _ _ rfl) (th_one 1 0 1) (by unfold maxLen; omega) (by omega) (Nat.le_trans F1b.out.kp.size (by simp)) (by decide) ?_
      intro ghb chb w2b own2b grow2b or2b
      have fneb : some f ≠ (Value.ownBlock (.slice (some ⟨g', 0, none⟩) 1 c')) := fun e => (F1b.out.x3 f e.symm).1 rfl
      have pneb : some p ≠ (Value.ownBlock (.slice (some ⟨g', 0, none⟩) 1 c')) := own_ne F1b.out.o3 PF.out.hp
      have S2b : (fun w' : World => w'.cell? ⟨f, 3, none⟩ = some (.slice (some ⟨g', 0, none⟩) 1 c') ∧ w'.cell? ⟨p, 1, none⟩ = some (.int .i64 1) ∧ w'.cell? ⟨f, 2, none⟩ = some (.int .i64 1)) w2b := ⟨grown_cell' grow2b fneb (cell_al S1b.1 _), grown_cell' grow2b pneb (cell_al S1b.2.1 _), grown_cell' grow2b fneb (cell_al S1b.2.2 _)⟩
      refine hK.out _ _ (.inr S2b) ?_
      clear hK K
      refine wpAnyT_one (i := 12) (by kernel_rfl) rfl (fun K hK => ?_)
      go_simp
      refine hK.out _ _ (.inr S2b) ?_
      clear hK K
      have s23b := S2b.1
      have sf3b : w2b.frozen? ⟨f, 3, none⟩ = false := (grown_free' grow2b (p := ⟨f, 3, none⟩) fneb (World.block_lt_of_cell? _ _ (cell_al S1b.1 _))).trans (((Kp.alloc [] w1b _).frozen (World.block_lt_of_cell? _ _ S1b.1) (by simp)).trans g3b)
      have FW := hid (FV.out.here (KKb.out.trans (Kp.alloc _ _ _)) grow2b own2b or2b)
      clear own2b grow2b or2b S2b S1b hSb d2b d3b q1b fneb pneb F1b KKb
      refine wpAnyT_one (i := 13) (by kernel_rfl) rfl (fun K hK => ?_)
      go_simp
      refine hK.out _ _ (.inl rfl) ?_
      clear hK K
      refine wpAnyT_done (by kernel_rfl) ?_ _
      refine NoPanic.normal ?_
      generalize w2b.setCell ⟨f, 3, none⟩ (.slice (some ⟨ghb, 0, none⟩) 2 chb) = W5 at *
      clear s23b sf3b g3b e3b
      have d3 := FW.out.c3
      go_wp2_with fail
      clear d3
      refine (goOn_found FW.out PF.out (by omega) (by decide)).mono ?_
      rintro e W6 ⟨rfl, fe⟩
      have FE := hid fe
      clear fe
      have d1 := FE.out.c1
      have d2 : W6.cell? ⟨f, 2, none⟩ = some (.int .i64 1) := FE.out.c2
      have d7 := FE.out.c7
      have e2 := FE.out.free 2
      go_wp2_with fail
      have FG : Hid (Fe w (W6.setCell ⟨f, 2, none⟩ (.int .i64 2)) f 2 (ByteArray.mk #[y]) 0 1) := hid (FE.out.place 2)
      clear d1 d2 d7 e2 FE
      generalize W6.setCell ⟨f, 2, none⟩ (.int .i64 2) = W7 at *
      have d1 := FG.out.c1
      have d2 : W7.cell? ⟨f, 2, none⟩ = some (.int .i64 2) := FG.out.c2
      have d7 := FG.out.c7
      have dp2 := (PF.out.keep FG.out.kp).p2
      have hmk := make_two
      have hsrc : Hid (∀ j v, [Value.int .i64 0, Value.int .i64 1][j]? = some v → (W7.alloc (.cells #[.int .i64 0, .int .i64 0] 3)).cell? ((⟨f, 8, none⟩ : Addr).add j) = some v) := hid (fun j v hv => by
        match j, hv with
        | 0, hv => cases hv; exact cell_al FG.out.c8 _
        | 1, hv => cases hv; exact cell_al FG.out.c9 _
        | j + 2, hv => simp at hv)
      have hone : Hid (∀ v ∈ [Value.int .i64 0, Value.int .i64 1], v.oneCell' = true) := hid (fun v hv => by
        simp only [List.mem_cons, List.not_mem_nil, or_false] at hv
        rcases hv with h | h <;> subst h <;> rfl)
      rw [rounds_succ]
      go_wp2_with (first | (refine wpList_copy_own rfl (.tmp 62) (.tmp 64) 32 32 rfl 3 (by kernel_rfl) (by kernel_rfl) W7.heap.size 0 2 2 ⟨f, 8, none⟩ 20 20 rfl rfl #[.int .i64 0, .int .i64 0] 3 (heap_alloc_new W7 _) [.int .i64 0, .int .i64 1] rfl hsrc.out (by simp) hone.out ?_; rw [World.setRow_alloc_new]) | fail)
      go_ret
      refine ⟨FG.out.kp.trans (Kp.alloc _ _ _), .inl ⟨hm, W7.heap.size, rfl, ?_, ?_⟩⟩
      · simp [go_sem]
      · simp [go_sem]
    · have hm' : m y.toNat = false := by simpa using hm
      refine (goOn_end FT.out PF.out (by omega) (.inr ⟨hpl, hm'⟩)).mono ?_
      rintro e W3 ⟨rfl, u5, ft⟩
      have FU := hid ft
      clear ft
      have d2 : W3.cell? ⟨f, 2, none⟩ = some (.int .i64 0) := FU.out.c2
      have d1 := FU.out.c1
      have d7 := FU.out.c7
      have e2 := FU.out.free 2
      go_wp2_with fail
      have FV : Hid (Fs w (W3.setCell ⟨f, 2, none⟩ (.int .i64 1)) f p sb 1 1 0 0 (ByteArray.mk #[y]) (.slice none 0 0) (.slice (some ⟨gha, 0, none⟩) 0 cha) u5 [] [] false) := hid (FU.out.place 1)
      clear d1 d2 d7 e2 FU
      generalize W3.setCell ⟨f, 2, none⟩ (.int .i64 1) = W4 at *
      have d1 := FV.out.c1
      have d2 : W4.cell? ⟨f, 2, none⟩ = some (.int .i64 1) := FV.out.c2
      have d7 := FV.out.c7
      rw [rounds_succ]
      go_wp2_with fail
      clear d1 d2 d7
      have d3c := FV.out.c3
      have d2c : W4.cell? ⟨f, 2, none⟩ = some (.int .i64 1) := FV.out.c2
      have e3c := FV.out.free 3
      have q1c := (PF.out.keep FV.out.kp).p1
      refine wp_region_noPanic ?_
      refine wp_region_T (fun w' : World => w'.cell? ⟨f, 3, none⟩ = some (.slice none 0 0) ∧ w'.cell? ⟨p, 1, none⟩ = some (.int .i64 1) ∧ w'.cell? ⟨f, 2, none⟩ = some (.int .i64 1)) 13 (by kernel_rfl) ?_
      have hSc : (fun w' : World => w'.cell? ⟨f, 3, none⟩ = some (.slice none 0 0) ∧ w'.cell? ⟨p, 1, none⟩ = some (.int .i64 1) ∧ w'.cell? ⟨f, 2, none⟩ = some (.int .i64 1)) W4.drew := ⟨d3c, q1c, d2c⟩
      refine wpAnyT_take (i := 0) (v := ?v0cp) rfl (by kernel_rfl) (by kernel_rfl) (by kernel_rfl) (by kernel_rfl) (fun _ _ _ h => h) (Or.inl ⟨by rfl, ?y0cp⟩) hSc ?_
      case y0cp => (intro w hSw; (try dsimp only at hSw); go_simp; (try with_reducible rfl))
      simp only [List.getElem_toArray, List.getElem_cons_zero, Act.put, List.setIfInBounds_toArray, List.set_cons_zero, List.set_cons_succ]
      refine wpAnyT_take (i := 1) (v := ?v1cp) rfl (by kernel_rfl) (by kernel_rfl) (by kernel_rfl) (by kernel_rfl) (fun _ _ _ h => h) (Or.inl ⟨by rfl, ?y1cp⟩) hSc ?_
      case y1cp => (intro w hSw; (try dsimp only at hSw); go_simp; (try with_reducible rfl))
      simp only [List.getElem_toArray, List.getElem_cons_succ, List.getElem_cons_zero, Act.put, List.setIfInBounds_toArray, List.set_cons_zero, List.set_cons_succ]
      refine wpAnyT_take (i := 2) (v := ?v2cp) rfl (by kernel_rfl) (by kernel_rfl) (by kernel_rfl) (by kernel_rfl) (fun _ _ _ h => h) (Or.inl ⟨by rfl, ?y2cp⟩) hSc ?_
      case y2cp => (intro w hSw; (try dsimp only at hSw); go_simp; (try with_reducible rfl))
      simp only [List.getElem_toArray, List.getElem_cons_succ, List.getElem_cons_zero, Act.put, List.setIfInBounds_toArray, List.set_cons_zero, List.set_cons_succ]
      refine wpAnyT_take (i := 3) (v := ?v3cp) rfl (by kernel_rfl) (by kernel_rfl) (by kernel_rfl) (by kernel_rfl) (fun _ _ _ h => h) (Or.inl ⟨by rfl, ?y3cp⟩) hSc ?_
      case y3cp => (intro w hSw; (try dsimp only at hSw); go_simp; (try with_reducible rfl))
      simp only [List.getElem_toArray, List.getElem_cons_succ, List.getElem_cons_zero, Act.put, List.setIfInBounds_toArray, List.set_cons_zero, List.set_cons_succ]
      refine wpAnyT_take (i := 4) (v := ?v4cp) rfl (by kernel_rfl) (by kernel_rfl) (by kernel_rfl) (by kernel_rfl) (fun _ _ _ h => h) (Or.inl ⟨by rfl, ?y4cp⟩) hSc ?_
      case y4cp => (intro w hSw; (try dsimp only at hSw); go_simp; (try with_reducible rfl))
      simp only [List.getElem_toArray, List.getElem_cons_succ, List.getElem_cons_zero, Act.put, List.setIfInBounds_toArray, List.set_cons_zero, List.set_cons_succ]
      refine wpAnyT_take (i := 5) (v := ?v5cp) rfl (by kernel_rfl) (by kernel_rfl) (by kernel_rfl) (by kernel_rfl) (fun _ _ _ h => h) (Or.inl ⟨by rfl, ?y5cp⟩) hSc ?_
      case y5cp => (intro w hSw; (try dsimp only at hSw); go_simp; (try with_reducible rfl))
      simp only [List.getElem_toArray, List.getElem_cons_succ, List.getElem_cons_zero, Act.put, List.setIfInBounds_toArray, List.set_cons_zero, List.set_cons_succ]
      refine wpAnyT_take (i := 6) (v := ?v6cp) rfl (by kernel_rfl) (by kernel_rfl) (by kernel_rfl) (by kernel_rfl) (fun _ _ _ h => h) (Or.inl ⟨by rfl, ?y6cp⟩) hSc ?_
      case y6cp => (intro w hSw; (try dsimp only at hSw); go_simp; (try with_reducible rfl))
      simp only [List.getElem_toArray, List.getElem_cons_succ, List.getElem_cons_zero, Act.put, List.setIfInBounds_toArray, List.set_cons_zero, List.set_cons_succ]
      refine wpAnyT_take (i := 7) (v := ?v7cp) rfl (by kernel_rfl) (by kernel_rfl) (by kernel_rfl) (by kernel_rfl) (fun _ _ _ h => h) (Or.inl ⟨by rfl, ?y7cp⟩) hSc ?_
      case y7cp => (intro w hSw; (try dsimp only at hSw); go_simp; (try with_reducible rfl))
      simp only [List.getElem_toArray, List.getElem_cons_succ, List.getElem_cons_zero, Act.put, List.setIfInBounds_toArray, List.set_cons_zero, List.set_cons_succ]
      refine wpAnyT_one (i := 8) (by kernel_rfl) rfl (fun K hK => ?_)
      go_simp
      refine (noted_any 1 _).mono ?_
      rintro e w1c ⟨rfl, k1c⟩
      have S1c : (fun w' : World => w'.cell? ⟨f, 3, none⟩ = some (.slice none 0 0) ∧ w'.cell? ⟨p, 1, none⟩ = some (.int .i64 1) ∧ w'.cell? ⟨f, 2, none⟩ = some (.int .i64 1)) w1c := ⟨(k1c.cell (World.block_lt_of_cell? _ _ d3c) (by simp)).trans d3c, (k1c.cell (World.block_lt_of_cell? _ _ q1c) (by simp)).trans q1c, (k1c.cell (World.block_lt_of_cell? _ _ d2c) (by simp)).trans d2c⟩
      have g3c : w1c.frozen? ⟨f, 3, none⟩ = false := (k1c.frozen (p := ⟨f, 3, none⟩) (World.block_lt_of_cell? _ _ d3c) (by simp)).trans e3c
      have KKc : Hid (Kp [] W4 w1c) := hid ((Kp.drew _ _).trans k1c)
      have F1c := hid (FV.out.keep KKc.out)
      clear k1c
      refine hK.out _ _ (.inr S1c) ?_
      clear hK K
      refine wpAnyT_take (i := 9) (v := ?v9cp) rfl (by kernel_rfl) (by kernel_rfl) (by kernel_rfl) (by kernel_rfl) (fun _ _ _ h => h) (Or.inl ⟨by rfl, ?y9cp⟩) S1c ?_
      case y9cp => (intro w hSw; (try dsimp only at hSw); go_simp; (try with_reducible rfl))
      simp only [List.getElem_toArray, List.getElem_cons_succ, List.getElem_cons_zero, Act.put, List.setIfInBounds_toArray, List.set_cons_zero, List.set_cons_succ]
      refine wpAnyT_one (i := 10) (by kernel_rfl) rfl (fun K hK => ?_)
      go_simp
      refine hK.out _ _ (.inr ⟨cell_al S1c.1 _, cell_al S1c.2.1 _, cell_al S1c.2.2 _⟩) ?_
      clear hK K
      refine wpAnyT_one (i := 11) (by kernel_rfl) rfl (fun K hK => ?_)
      refine step_append2 (by rfl) (.tmp 35) (.tmp 44) 50 (by rfl) w.heap.size 57 ti _ 22 176 Tryd.underlying50 HI.out HZ.out.1 HZ.out.2.1 HZ.out.2.2 rfl (by decide) (.slice none 0 0) 0 ([]) (by rfl) (F1c.out.o3.alloc _) ⟨w1c.heap.size, 0, none⟩ 1 1 (th 1 0 1) (by rfl) rfl (news_al w1c _ _ _ rfl) (th_one 1 0 1) (by unfold maxLen; omega) (by omega) (Nat.le_trans F1c.out.kp.size (by simp)) (by decide) ?_
      intro ghc chc w2c own2c grow2c or2c
      have fnec : some f ≠ (Value.ownBlock (.slice none 0 0)) := fun e => (F1c.out.x3 f e.symm).1 rfl
      have pnec : some p ≠ (Value.ownBlock (.slice none 0 0)) := own_ne F1c.out.o3 PF.out.hp
      have S2c : (fun w' : World => w'.cell? ⟨f, 3, none⟩ = some (.slice none 0 0) ∧ w'.cell? ⟨p, 1, none⟩ = some (.int .i64 1) ∧ w'.cell? ⟨f, 2, none⟩ = some (.int .i64 1)) w2c := ⟨grown_cell' grow2c fnec (cell_al S1c.1 _), grown_cell' grow2c pnec (cell_al S1c.2.1 _), grown_cell' grow2c fnec (cell_al S1c.2.2 _)⟩
      refine hK.out _ _ (.inr S2c) ?_
      clear hK K
      refine wpAnyT_one (i := 12) (by kernel_rfl) rfl (fun K hK => ?_)
      go_simp
      refine hK.out _ _ (.inr S2c) ?_
      clear hK K
      have s23c := S2c.1
      have sf3c : w2c.frozen? ⟨f, 3, none⟩ = false := (grown_free' grow2c (p := ⟨f, 3, none⟩) fnec (World.block_lt_of_cell? _ _ (cell_al S1c.1 _))).trans (((Kp.alloc [] w1c _).frozen (World.block_lt_of_cell? _ _ S1c.1) (by simp)).trans g3c)
      have FW := hid (FV.out.here (KKc.out.trans (Kp.alloc _ _ _)) grow2c own2c or2c)
      clear own2c grow2c or2c S2c S1c hSc d2c d3c q1c fnec pnec F1c KKc
      refine wpAnyT_one (i := 13) (by kernel_rfl) rfl (fun K hK => ?_)
      go_simp
      refine hK.out _ _ (.inl rfl) ?_
      clear hK K
      refine wpAnyT_done (by kernel_rfl) ?_ _
      refine NoPanic.normal ?_
      generalize w2c.setCell ⟨f, 3, none⟩ (.slice (some ⟨ghc, 0, none⟩) 1 chc) = W5 at *
      clear s23c sf3c g3c e3c
      have d3 := FW.out.c3
      go_wp2_with fail
      clear d3
      refine (goOn_end FW.out PF.out (by omega) (.inl (by rw [htl]; rfl))).mono ?_
      rintro e W6 ⟨rfl, u6, fe⟩
      have FE := hid fe
      clear fe
      have d1 := FE.out.c1
      have d2 : W6.cell? ⟨f, 2, none⟩ = some (.int .i64 1) := FE.out.c2
      have d7 := FE.out.c7
      have e2 := FE.out.free 2
      go_wp2_with fail
      rw [rounds_succ]
      go_wp2_with fail
      go_ret
      exact ⟨(FE.out.place 2).kp, .inr ⟨hm', rfl⟩⟩
  · go_simp
    have hS1 : (fun w' : World => w'.cell? ⟨p, 0, none⟩ = some (.slice (some ⟨g, 0, none⟩) 2 c) ∧ w'.cell? ⟨p, 3, none⟩ = some (.int .i64 0)) ((w.alloc (.cells zeroF 54)).drew) := ⟨cell_ad p0 _, cell_ad p3 _⟩
    refine hK.out _ _ (.inr hS1) ?_
    clear hK K
    refine wpAnyT_one (i := 13) (by kernel_rfl) rfl (fun K hK => ?_)
    go_simp
    have hS2 : (fun w' : World => w'.cell? ⟨p, 0, none⟩ = some (.slice (some ⟨g, 0, none⟩) 2 c) ∧ w'.cell? ⟨p, 3, none⟩ = some (.int .i64 0)) (((w.alloc (.cells zeroF 54)).alloc (.cells #[.int .i64 0, .int .i64 0] 3)).drew) := ⟨cell_ad (w := w.alloc (.cells zeroF 54)) hS1.1 _, cell_ad (w := w.alloc (.cells zeroF 54)) hS1.2 _⟩
    refine hK.out _ _ (.inr hS2) ?_
    clear hK K
    refine wpAnyT_take (i := 14) (v := ?v14b) rfl (by kernel_rfl) (by kernel_rfl) (by kernel_rfl) (by kernel_rfl) (fun _ _ _ h => h) (Or.inl ⟨by rfl, ?y14b⟩) hS2 ?_
    case y14b => (intro w hSw; (try dsimp only at hSw); go_simp; (try with_reducible rfl))
    simp only [List.getElem_toArray, List.getElem_cons_succ, List.getElem_cons_zero, Act.put, List.setIfInBounds_toArray, List.set_cons_zero, List.set_cons_succ]
    refine wpAnyT_one (i := 16) (by kernel_rfl) rfl (fun K hK => ?_)
    rw [if_pos (by rfl)]
    refine wp_store_mid 54 (.tmp 5) (.tmp 21) rfl w.heap.size 0 (finL p (ByteArray.mk #[y]) (w.heap.size + 1)).toArray rfl rfl ?hth Tryd.szFinder (all_oneCell_toArray (fin_one p (ByteArray.mk #[y]) (w.heap.size + 1))) ?_
    case hth => exact there_old (there_new w) _
    refine hK.out _ _ (.inl rfl) ?_
    clear hK K
    refine wpAnyT_done (by kernel_rfl) ?_ _
    refine NoPanic.normal ?_
    have fs : Fs w ((((w.alloc (.cells zeroF 54)).alloc (.cells #[.int .i64 0, .int .i64 0] 3)).drew).setCells w.heap.size 0 (finL p (ByteArray.mk #[y]) (w.heap.size + 1)).toArray.toList) (w.heap.size) p (w.heap.size + 1) 0 0 0 0 (ByteArray.mk #[y]) (.slice none 0 0) (.slice none 0 0) (.slice none 0 0) [] [] false := by
      refine fs0_of ((Kp.alloc _ _ _).trans ((Kp.alloc _ _ _).trans (Kp.drew _ _))) (by omega) (by omega) (by omega) ?_ ?_ ?_
      · exact there_old (there_new w) _
      · intro i; simp
      · intro i hi
        match i, hi with
        | 0, _ => exact ⟨by simp [go_sem], by simp [go_sem]⟩
        | 1, _ => exact ⟨by simp [go_sem], by simp [go_sem]⟩
    generalize (((w.alloc (.cells zeroF 54)).alloc (.cells #[.int .i64 0, .int .i64 0] 3)).drew).setCells w.heap.size 0 (finL p (ByteArray.mk #[y]) (w.heap.size + 1)).toArray.toList = W at *
    clear hS hS1 hS2
    generalize w.heap.size + 1 = sb at *
    generalize w.heap.size = f at *
    have FS := hid fs
    clear fs hmk hw1 hw2 p0 p3
    have d1 := FS.out.c1
    have d2 : W.cell? ⟨f, 2, none⟩ = some (.int .i64 0) := FS.out.c2
    have d7 := FS.out.c7
    obtain ⟨ti, hi, hz0, hz1, hz2⟩ := info_parts Tryd.infoTh
    have HI := hid hi
    have HZ := hid (And.intro hz0 (And.intro hz1 hz2))
    clear hi hz0 hz1 hz2
    go_wp2
    refine wp_loop_rounds 3 ?_
    rw [rounds_succ]
    go_wp2_with fail
    clear d1 d2 d7
    have d3a := FS.out.c3
    have d2a : W.cell? ⟨f, 2, none⟩ = some (.int .i64 0) := FS.out.c2
    have e3a := FS.out.free 3
    have q1a := (PF.out.keep FS.out.kp).p1
    refine wp_region_noPanic ?_
    refine wp_region_T (fun w' : World => w'.cell? ⟨f, 3, none⟩ = some (.slice none 0 0) ∧ w'.cell? ⟨p, 1, none⟩ = some (.int .i64 1) ∧ w'.cell? ⟨f, 2, none⟩ = some (.int .i64 0)) 13 (by kernel_rfl) ?_
    have hSa : (fun w' : World => w'.cell? ⟨f, 3, none⟩ = some (.slice none 0 0) ∧ w'.cell? ⟨p, 1, none⟩ = some (.int .i64 1) ∧ w'.cell? ⟨f, 2, none⟩ = some (.int .i64 0)) W.drew := ⟨d3a, q1a, d2a⟩
    refine wpAnyT_take (i := 0) (v := ?v0aq) rfl (by kernel_rfl) (by kernel_rfl) (by kernel_rfl) (by kernel_rfl) (fun _ _ _ h => h) (Or.inl ⟨by rfl, ?y0aq⟩) hSa ?_
    case y0aq => (intro w hSw; (try dsimp only at hSw); go_simp; (try with_reducible rfl))
    simp only [List.getElem_toArray, List.getElem_cons_zero, Act.put, List.setIfInBounds_toArray, List.set_cons_zero, List.set_cons_succ]
    refine wpAnyT_take (i := 1) (v := ?v1aq) rfl (by kernel_rfl) (by kernel_rfl) (by kernel_rfl) (by kernel_rfl) (fun _ _ _ h => h) (Or.inl ⟨by rfl, ?y1aq⟩) hSa ?_
    case y1aq => (intro w hSw; (try dsimp only at hSw); go_simp; (try with_reducible rfl))
    simp only [List.getElem_toArray, List.getElem_cons_succ, List.getElem_cons_zero, Act.put, List.setIfInBounds_toArray, List.set_cons_zero, List.set_cons_succ]
    refine wpAnyT_take (i := 2) (v := ?v2aq) rfl (by kernel_rfl) (by kernel_rfl) (by kernel_rfl) (by kernel_rfl) (fun _ _ _ h => h) (Or.inl ⟨by rfl, ?y2aq⟩) hSa ?_
    case y2aq => (intro w hSw; (try dsimp only at hSw); go_simp; (try with_reducible rfl))
    simp only [List.getElem_toArray, List.getElem_cons_succ, List.getElem_cons_zero, Act.put, List.setIfInBounds_toArray, List.set_cons_zero, List.set_cons_succ]
    refine wpAnyT_take (i := 3) (v := ?v3aq) rfl (by kernel_rfl) (by kernel_rfl) (by kernel_rfl) (by kernel_rfl) (fun _ _ _ h => h) (Or.inl ⟨by rfl, ?y3aq⟩) hSa ?_
    case y3aq => (intro w hSw; (try dsimp only at hSw); go_simp; (try with_reducible rfl))
    simp only [List.getElem_toArray, List.getElem_cons_succ, List.getElem_cons_zero, Act.put, List.setIfInBounds_toArray, List.set_cons_zero, List.set_cons_succ]
    refine wpAnyT_take (i := 4) (v := ?v4aq) rfl (by kernel_rfl) (by kernel_rfl) (by kernel_rfl) (by kernel_rfl) (fun _ _ _ h => h) (Or.inl ⟨by rfl, ?y4aq⟩) hSa ?_
    case y4aq => (intro w hSw; (try dsimp only at hSw); go_simp; (try with_reducible rfl))
    simp only [List.getElem_toArray, List.getElem_cons_succ, List.getElem_cons_zero, Act.put, List.setIfInBounds_toArray, List.set_cons_zero, List.set_cons_succ]
    refine wpAnyT_take (i := 5) (v := ?v5aq) rfl (by kernel_rfl) (by kernel_rfl) (by kernel_rfl) (by kernel_rfl) (fun _ _ _ h => h) (Or.inl ⟨by rfl, ?y5aq⟩) hSa ?_
    case y5aq => (intro w hSw; (try dsimp only at hSw); go_simp; (try with_reducible rfl))
    simp only [List.getElem_toArray, List.getElem_cons_succ, List.getElem_cons_zero, Act.put, List.setIfInBounds_toArray, List.set_cons_zero, List.set_cons_succ]
    refine wpAnyT_take (i := 6) (v := ?v6aq) rfl (by kernel_rfl) (by kernel_rfl) (by kernel_rfl) (by kernel_rfl) (fun _ _ _ h => h) (Or.inl ⟨by rfl, ?y6aq⟩) hSa ?_
    case y6aq => (intro w hSw; (try dsimp only at hSw); go_simp; (try with_reducible rfl))
    simp only [List.getElem_toArray, List.getElem_cons_succ, List.getElem_cons_zero, Act.put, List.setIfInBounds_toArray, List.set_cons_zero, List.set_cons_succ]
    refine wpAnyT_take (i := 7) (v := ?v7aq) rfl (by kernel_rfl) (by kernel_rfl) (by kernel_rfl) (by kernel_rfl) (fun _ _ _ h => h) (Or.inl ⟨by rfl, ?y7aq⟩) hSa ?_
    case y7aq => (intro w hSw; (try dsimp only at hSw); go_simp; (try with_reducible rfl))
    simp only [List.getElem_toArray, List.getElem_cons_succ, List.getElem_cons_zero, Act.put, List.setIfInBounds_toArray, List.set_cons_zero, List.set_cons_succ]
    refine wpAnyT_one (i := 8) (by kernel_rfl) rfl (fun K hK => ?_)
    go_simp
    refine (noted_any 0 _).mono ?_
    rintro e w1a ⟨rfl, k1a⟩
    have S1a : (fun w' : World => w'.cell? ⟨f, 3, none⟩ = some (.slice none 0 0) ∧ w'.cell? ⟨p, 1, none⟩ = some (.int .i64 1) ∧ w'.cell? ⟨f, 2, none⟩ = some (.int .i64 0)) w1a := ⟨(k1a.cell (World.block_lt_of_cell? _ _ d3a) (by simp)).trans d3a, (k1a.cell (World.block_lt_of_cell? _ _ q1a) (by simp)).trans q1a, (k1a.cell (World.block_lt_of_cell? _ _ d2a) (by simp)).trans d2a⟩
    have g3a : w1a.frozen? ⟨f, 3, none⟩ = false := (k1a.frozen (p := ⟨f, 3, none⟩) (World.block_lt_of_cell? _ _ d3a) (by simp)).trans e3a
    have KKa : Hid (Kp [] W w1a) := hid ((Kp.drew _ _).trans k1a)
    have F1a := hid (FS.out.keep KKa.out)
    clear k1a
    refine hK.out _ _ (.inr S1a) ?_
    clear hK K
    refine wpAnyT_take (i := 9) (v := ?v9aq) rfl (by kernel_rfl) (by kernel_rfl) (by kernel_rfl) (by kernel_rfl) (fun _ _ _ h => h) (Or.inl ⟨by rfl, ?y9aq⟩) S1a ?_
    case y9aq => (intro w hSw; (try dsimp only at hSw); go_simp; (try with_reducible rfl))
    simp only [List.getElem_toArray, List.getElem_cons_succ, List.getElem_cons_zero, Act.put, List.setIfInBounds_toArray, List.set_cons_zero, List.set_cons_succ]
    refine wpAnyT_one (i := 10) (by kernel_rfl) rfl (fun K hK => ?_)
    go_simp
    refine hK.out _ _ (.inr ⟨cell_al S1a.1 _, cell_al S1a.2.1 _, cell_al S1a.2.2 _⟩) ?_
    clear hK K
    refine wpAnyT_one (i := 11) (by kernel_rfl) rfl (fun K hK => ?_)
    refine step_append2 (by rfl) (.tmp 35) (.tmp 44) 50 (by rfl) w.heap.size 57 ti _ 22 176 Tryd.underlying50 HI.out HZ.out.1 HZ.out.2.1 HZ.out.2.2 rfl (by decide) (.slice none 0 0) 0 ([]) (by rfl) (F1a.out.o3.alloc _) ⟨w1a.heap.size, 0, none⟩ 1 1 (th 1 0 0) (by rfl) rfl (news_al w1a _ _ _ rfl) (th_one 1 0 0) (by unfold maxLen; omega) (by omega) (Nat.le_trans F1a.out.kp.size (by simp)) (by decide) ?_
    intro gha cha w2a own2a grow2a or2a
    have fnea : some f ≠ (Value.ownBlock (.slice none 0 0)) := fun e => (F1a.out.x3 f e.symm).1 rfl
    have pnea : some p ≠ (Value.ownBlock (.slice none 0 0)) := own_ne F1a.out.o3 PF.out.hp
    have S2a : (fun w' : World => w'.cell? ⟨f, 3, none⟩ = some (.slice none 0 0) ∧ w'.cell? ⟨p, 1, none⟩ = some (.int .i64 1) ∧ w'.cell? ⟨f, 2, none⟩ = some (.int .i64 0)) w2a := ⟨grown_cell' grow2a fnea (cell_al S1a.1 _), grown_cell' grow2a pnea (cell_al S1a.2.1 _), grown_cell' grow2a fnea (cell_al S1a.2.2 _)⟩
    refine hK.out _ _ (.inr S2a) ?_
    clear hK K
    refine wpAnyT_one (i := 12) (by kernel_rfl) rfl (fun K hK => ?_)
    go_simp
    refine hK.out _ _ (.inr S2a) ?_
    clear hK K
    have s23a := S2a.1
    have sf3a : w2a.frozen? ⟨f, 3, none⟩ = false := (grown_free' grow2a (p := ⟨f, 3, none⟩) fnea (World.block_lt_of_cell? _ _ (cell_al S1a.1 _))).trans (((Kp.alloc [] w1a _).frozen (World.block_lt_of_cell? _ _ S1a.1) (by simp)).trans g3a)
    have FT := hid (FS.out.here (KKa.out.trans (Kp.alloc _ _ _)) grow2a own2a or2a)
    clear own2a grow2a or2a S2a S1a hSa d2a d3a q1a fnea pnea F1a KKa
    refine wpAnyT_one (i := 13) (by kernel_rfl) rfl (fun K hK => ?_)
    go_simp
    refine hK.out _ _ (.inl rfl) ?_
    clear hK K
    refine wpAnyT_done (by kernel_rfl) ?_ _
    refine NoPanic.normal ?_
    generalize w2a.setCell ⟨f, 3, none⟩ (.slice (some ⟨gha, 0, none⟩) 1 cha) = W2 at *
    clear s23a sf3a g3a e3a
    have d3 := FT.out.c3
    go_wp2_with fail
    clear d3
    have hpl : (0 : Nat) < (ByteArray.mk #[y]).size := by rw [htl]; omega
    by_cases hm : m y.toNat = true
    · refine (goOn_hit FT.out PF.out (by omega) hpl hm).mono ?_
      rintro e W3 ⟨rfl, g', c', u5, ft⟩
      have FU := hid ft
      clear ft
      have d2 : W3.cell? ⟨f, 2, none⟩ = some (.int .i64 0) := FU.out.c2
      have d1 := FU.out.c1
      have d7 := FU.out.c7
      have e2 := FU.out.free 2
      go_wp2_with fail
      have FV : Hid (Fs w (W3.setCell ⟨f, 2, none⟩ (.int .i64 1)) f p sb 1 1 1 0 (ByteArray.mk #[y]) (.slice (some ⟨g', 0, none⟩) 1 c') (.slice (some ⟨gha, 0, none⟩) 0 cha) u5 (th 0 0 0) [] false) := hid (FU.out.place 1)
      clear d1 d2 d7 e2 FU
      generalize W3.setCell ⟨f, 2, none⟩ (.int .i64 1) = W4 at *
      have d1 := FV.out.c1
      have d2 : W4.cell? ⟨f, 2, none⟩ = some (.int .i64 1) := FV.out.c2
      have d7 := FV.out.c7
      rw [rounds_succ]
      go_wp2_with fail
      clear d1 d2 d7
      have d3b := FV.out.c3
      have d2b : W4.cell? ⟨f, 2, none⟩ = some (.int .i64 1) := FV.out.c2
      have e3b := FV.out.free 3
      have q1b := (PF.out.keep FV.out.kp).p1
      refine wp_region_noPanic ?_
      refine wp_region_T (fun w' : World => w'.cell? ⟨f, 3, none⟩ = some (.slice (some ⟨g', 0, none⟩) 1 c') ∧ w'.cell? ⟨p, 1, none⟩ = some (.int .i64 1) ∧ w'.cell? ⟨f, 2, none⟩ = some (.int .i64 1)) 13 (by kernel_rfl) ?_
      have hSb : (fun w' : World => w'.cell? ⟨f, 3, none⟩ = some (.slice (some ⟨g', 0, none⟩) 1 c') ∧ w'.cell? ⟨p, 1, none⟩ = some (.int .i64 1) ∧ w'.cell? ⟨f, 2, none⟩ = some (.int .i64 1)) W4.drew := ⟨d3b, q1b, d2b⟩
      refine wpAnyT_take (i := 0) (v := ?v0bq) rfl (by kernel_rfl) (by kernel_rfl) (by kernel_rfl) (by kernel_rfl) (fun _ _ _ h => h) (Or.inl ⟨by rfl, ?y0bq⟩) hSb ?_
      case y0bq => (intro w hSw; (try dsimp only at hSw); go_simp; (try with_reducible rfl))
      simp only [List.getElem_toArray, List.getElem_cons_zero, Act.put, List.setIfInBounds_toArray, List.set_cons_zero, List.set_cons_succ]
      refine wpAnyT_take (i := 1) (v := ?v1bq) rfl (by kernel_rfl) (by kernel_rfl) (by kernel_rfl) (by kernel_rfl) (fun _ _ _ h => h) (Or.inl ⟨by rfl, ?y1bq⟩) hSb ?_
      case y1bq => (intro w hSw; (try dsimp only at hSw); go_simp; (try with_reducible rfl))
      simp only [List.getElem_toArray, List.getElem_cons_succ, List.getElem_cons_zero, Act.put, List.setIfInBounds_toArray, List.set_cons_zero, List.set_cons_succ]
      refine wpAnyT_take (i := 2) (v := ?v2bq) rfl (by kernel_rfl) (by kernel_rfl) (by kernel_rfl) (by kernel_rfl) (fun _ _ _ h => h) (Or.inl ⟨by rfl, ?y2bq⟩) hSb ?_
      case y2bq => (intro w hSw; (try dsimp only at hSw); go_simp; (try with_reducible rfl))
      simp only [List.getElem_toArray, List.getElem_cons_succ, List.getElem_cons_zero, Act.put, List.setIfInBounds_toArray, List.set_cons_zero, List.set_cons_succ]
      refine wpAnyT_take (i := 3) (v := ?v3bq) rfl (by kernel_rfl) (by kernel_rfl) (by kernel_rfl) (by kernel_rfl) (fun _ _ _ h => h) (Or.inl ⟨by rfl, ?y3bq⟩) hSb ?_
      case y3bq => (intro w hSw; (try dsimp only at hSw); go_simp; (try with_reducible rfl))
      simp only [List.getElem_toArray, List.getElem_cons_succ, List.getElem_cons_zero, Act.put, List.setIfInBounds_toArray, List.set_cons_zero, List.set_cons_succ]
      refine wpAnyT_take (i := 4) (v := ?v4bq) rfl (by kernel_rfl) (by kernel_rfl) (by kernel_rfl) (by kernel_rfl) (fun _ _ _ h => h) (Or.inl ⟨by rfl, ?y4bq⟩) hSb ?_
      case y4bq => (intro w hSw; (try dsimp only at hSw); go_simp; (try with_reducible rfl))
      simp only [List.getElem_toArray, List.getElem_cons_succ, List.getElem_cons_zero, Act.put, List.setIfInBounds_toArray, List.set_cons_zero, List.set_cons_succ]
      refine wpAnyT_take (i := 5) (v := ?v5bq) rfl (by kernel_rfl) (by kernel_rfl) (by kernel_rfl) (by kernel_rfl) (fun _ _ _ h => h) (Or.inl ⟨by rfl, ?y5bq⟩) hSb ?_
      case y5bq => (intro w hSw; (try dsimp only at hSw); go_simp; (try with_reducible rfl))
      simp only [List.getElem_toArray, List.getElem_cons_succ, List.getElem_cons_zero, Act.put, List.setIfInBounds_toArray, List.set_cons_zero, List.set_cons_succ]
      refine wpAnyT_take (i := 6) (v := ?v6bq) rfl (by kernel_rfl) (by kernel_rfl) (by kernel_rfl) (by kernel_rfl) (fun _ _ _ h => h) (Or.inl ⟨by rfl, ?y6bq⟩) hSb ?_
      case y6bq => (intro w hSw; (try dsimp only at hSw); go_simp; (try with_reducible rfl))
      simp only [List.getElem_toArray, List.getElem_cons_succ, List.getElem_cons_zero, Act.put, List.setIfInBounds_toArray, List.set_cons_zero, List.set_cons_succ]
      refine wpAnyT_take (i := 7) (v := ?v7bq) rfl (by kernel_rfl) (by kernel_rfl) (by kernel_rfl) (by kernel_rfl) (fun _ _ _ h => h) (Or.inl ⟨by rfl, ?y7bq⟩) hSb ?_
      case y7bq => (intro w hSw; (try dsimp only at hSw); go_simp; (try with_reducible rfl))
      simp only [List.getElem_toArray, List.getElem_cons_succ, List.getElem_cons_zero, Act.put, List.setIfInBounds_toArray, List.set_cons_zero, List.set_cons_succ]
      refine wpAnyT_one (i := 8) (by kernel_rfl) rfl (fun K hK => ?_)
      go_simp
      refine (noted_any 1 _).mono ?_
      rintro e w1b ⟨rfl, k1b⟩
      have S1b : (fun w' : World => w'.cell? ⟨f, 3, none⟩ = some (.slice (some ⟨g', 0, none⟩) 1 c') ∧ w'.cell? ⟨p, 1, none⟩ = some (.int .i64 1) ∧ w'.cell? ⟨f, 2, none⟩ = some (.int .i64 1)) w1b := ⟨(k1b.cell (World.block_lt_of_cell? _ _ d3b) (by simp)).trans d3b, (k1b.cell (World.block_lt_of_cell? _ _ q1b) (by simp)).trans q1b, (k1b.cell (World.block_lt_of_cell? _ _ d2b) (by simp)).trans d2b⟩
      have g3b : w1b.frozen? ⟨f, 3, none⟩ = false := (k1b.frozen (p := ⟨f, 3, none⟩) (World.block_lt_of_cell? _ _ d3b) (by simp)).trans e3b
      have KKb : Hid (Kp [] W4 w1b) := hid ((Kp.drew _ _).trans k1b)
      have F1b := hid (FV.out.keep KKb.out)
      clear k1b
      refine hK.out _ _ (.inr S1b) ?_
      clear hK K
      refine wpAnyT_take (i := 9) (v := ?v9bq) rfl (by kernel_rfl) (by kernel_rfl) (by kernel_rfl) (by kernel_rfl) (fun _ _ _ h => h) (Or.inl ⟨by rfl, ?y9bq⟩) S1b ?_
      case y9bq => (intro w hSw; (try dsimp only at hSw); go_simp; (try with_reducible rfl))
      simp only [List.getElem_toArray, List.getElem_cons_succ, List.getElem_cons_zero, Act.put, List.setIfInBounds_toArray, List.set_cons_zero, List.set_cons_succ]
      refine wpAnyT_one (i := 10) (by kernel_rfl) rfl (fun K hK => ?_)
      go_simp
      refine hK.out _ _ (.inr ⟨cell_al S1b.1 _, cell_al S1b.2.1 _, cell_al S1b.2.2 _⟩) ?_
      clear hK K
      refine wpAnyT_one (i := 11) (by kernel_rfl) rfl (fun K hK => ?_)
      refine step_append2 (by rfl) (.tmp 35) (.tmp 44) 50 (by rfl) w.heap.size 57 ti _ 22 176 Tryd.underlying50 HI.out HZ.out.1 HZ.out.2.1 HZ.out.2.2 rfl (by decide) (.slice (some ⟨g', 0, none⟩) 1 c') 1 (th 0 0 0) (by rfl) (F1b.out.o3.alloc _) ⟨w1b.heap.size, 0, none⟩ 1 1 (th 1 0 1) (by rfl) rfl (news_al w1b _ _ _ rfl) (th_one 1 0 1) (by unfold maxLen; omega) (by omega) (Nat.le_trans F1b.out.kp.size (by simp)) (by decide) ?_
      intro ghb chb w2b own2b grow2b or2b
      have fneb : some f ≠ (Value.ownBlock (.slice (some ⟨g', 0, none⟩) 1 c')) := fun e => (F1b.out.x3 f e.symm).1 rfl
      have pneb : some p ≠ (Value.ownBlock (.slice (some ⟨g', 0, none⟩) 1 c')) := own_ne F1b.out.o3 PF.out.hp
      have S2b : (fun w' : World => w'.cell? ⟨f, 3, none⟩ = some (.slice (some ⟨g', 0, none⟩) 1 c') ∧ w'.cell? ⟨p, 1, none⟩ = some (.int .i64 1) ∧ w'.cell? ⟨f, 2, none⟩ = some (.int .i64 1)) w2b := ⟨grown_cell' grow2b fneb (cell_al S1b.1 _), grown_cell' grow2b pneb (cell_al S1b.2.1 _), grown_cell' grow2b fneb (cell_al S1b.2.2 _)⟩
      refine hK.out _ _ (.inr S2b) ?_
      clear hK K
      refine wpAnyT_one (i := 12) (by kernel_rfl) rfl (fun K hK => ?_)
      go_simp
      refine hK.out _ _ (.inr S2b) ?_
      clear hK K
      have s23b := S2b.1
      have sf3b : w2b.frozen? ⟨f, 3, none⟩ = false := (grown_free' grow2b (p := ⟨f, 3, none⟩) fneb (World.block_lt_of_cell? _ _ (cell_al S1b.1 _))).trans (((Kp.alloc [] w1b _).frozen (World.block_lt_of_cell? _ _ S1b.1) (by simp)).trans g3b)
      have FW := hid (FV.out.here (KKb.out.trans (Kp.alloc _ _ _)) grow2b own2b or2b)
      clear own2b grow2b or2b S2b S1b hSb d2b d3b q1b fneb pneb F1b KKb
      refine wpAnyT_one (i := 13) (by kernel_rfl) rfl (fun K hK => ?_)
      go_simp
      refine hK.out _ _ (.inl rfl) ?_
      clear hK K
      refine wpAnyT_done (by kernel_rfl) ?_ _
      refine NoPanic.normal ?_
      generalize w2b.setCell ⟨f, 3, none⟩ (.slice (some ⟨ghb, 0, none⟩) 2 chb) = W5 at *
      clear s23b sf3b g3b e3b
      have d3 := FW.out.c3
      go_wp2_with fail
      clear d3
      refine (goOn_found FW.out PF.out (by omega) (by decide)).mono ?_
      rintro e W6 ⟨rfl, fe⟩
      have FE := hid fe
      clear fe
      have d1 := FE.out.c1
      have d2 : W6.cell? ⟨f, 2, none⟩ = some (.int .i64 1) := FE.out.c2
      have d7 := FE.out.c7
      have e2 := FE.out.free 2
      go_wp2_with fail
      have FG : Hid (Fe w (W6.setCell ⟨f, 2, none⟩ (.int .i64 2)) f 2 (ByteArray.mk #[y]) 0 1) := hid (FE.out.place 2)
      clear d1 d2 d7 e2 FE
      generalize W6.setCell ⟨f, 2, none⟩ (.int .i64 2) = W7 at *
      have d1 := FG.out.c1
      have d2 : W7.cell? ⟨f, 2, none⟩ = some (.int .i64 2) := FG.out.c2
      have d7 := FG.out.c7
      have dp2 := (PF.out.keep FG.out.kp).p2
      have hmk := make_two
      have hsrc : Hid (∀ j v, [Value.int .i64 0, Value.int .i64 1][j]? = some v → (W7.alloc (.cells #[.int .i64 0, .int .i64 0] 3)).cell? ((⟨f, 8, none⟩ : Addr).add j) = some v) := hid (fun j v hv => by
        match j, hv with
        | 0, hv => cases hv; exact cell_al FG.out.c8 _
        | 1, hv => cases hv; exact cell_al FG.out.c9 _
        | j + 2, hv => simp at hv)
      have hone : Hid (∀ v ∈ [Value.int .i64 0, Value.int .i64 1], v.oneCell' = true) := hid (fun v hv => by
        simp only [List.mem_cons, List.not_mem_nil, or_false] at hv
        rcases hv with h | h <;> subst h <;> rfl)
      rw [rounds_succ]
      go_wp2_with (first | (refine wpList_copy_own rfl (.tmp 62) (.tmp 64) 32 32 rfl 3 (by kernel_rfl) (by kernel_rfl) W7.heap.size 0 2 2 ⟨f, 8, none⟩ 20 20 rfl rfl #[.int .i64 0, .int .i64 0] 3 (heap_alloc_new W7 _) [.int .i64 0, .int .i64 1] rfl hsrc.out (by simp) hone.out ?_; rw [World.setRow_alloc_new]) | fail)
      go_ret
      refine ⟨FG.out.kp.trans (Kp.alloc _ _ _), .inl ⟨hm, W7.heap.size, rfl, ?_, ?_⟩⟩
      · simp [go_sem]
      · simp [go_sem]
    · have hm' : m y.toNat = false := by simpa using hm
      refine (goOn_end FT.out PF.out (by omega) (.inr ⟨hpl, hm'⟩)).mono ?_
      rintro e W3 ⟨rfl, u5, ft⟩
      have FU := hid ft
      clear ft
      have d2 : W3.cell? ⟨f, 2, none⟩ = some (.int .i64 0) := FU.out.c2
      have d1 := FU.out.c1
      have d7 := FU.out.c7
      have e2 := FU.out.free 2
      go_wp2_with fail
      have FV : Hid (Fs w (W3.setCell ⟨f, 2, none⟩ (.int .i64 1)) f p sb 1 1 0 0 (ByteArray.mk #[y]) (.slice none 0 0) (.slice (some ⟨gha, 0, none⟩) 0 cha) u5 [] [] false) := hid (FU.out.place 1)
      clear d1 d2 d7 e2 FU
      generalize W3.setCell ⟨f, 2, none⟩ (.int .i64 1) = W4 at *
      have d1 := FV.out.c1
      have d2 : W4.cell? ⟨f, 2, none⟩ = some (.int .i64 1) := FV.out.c2
      have d7 := FV.out.c7
      rw [rounds_succ]
      go_wp2_with fail
      clear d1 d2 d7
      have d3c := FV.out.c3
      have d2c : W4.cell? ⟨f, 2, none⟩ = some (.int .i64 1) := FV.out.c2
      have e3c := FV.out.free 3
      have q1c := (PF.out.keep FV.out.kp).p1
      refine wp_region_noPanic ?_
      refine wp_region_T (fun w' : World => w'.cell? ⟨f, 3, none⟩ = some (.slice none 0 0) ∧ w'.cell? ⟨p, 1, none⟩ = some (.int .i64 1) ∧ w'.cell? ⟨f, 2, none⟩ = some (.int .i64 1)) 13 (by kernel_rfl) ?_
      have hSc : (fun w' : World => w'.cell? ⟨f, 3, none⟩ = some (.slice none 0 0) ∧ w'.cell? ⟨p, 1, none⟩ = some (.int .i64 1) ∧ w'.cell? ⟨f, 2, none⟩ = some (.int .i64 1)) W4.drew := ⟨d3c, q1c, d2c⟩
      refine wpAnyT_take (i := 0) (v := ?v0cq) rfl (by kernel_rfl) (by kernel_rfl) (by kernel_rfl) (by kernel_rfl) (fun _ _ _ h => h) (Or.inl ⟨by rfl, ?y0cq⟩) hSc ?_
      case y0cq => (intro w hSw; (try dsimp only at hSw); go_simp; (try with_reducible rfl))
      simp only [List.getElem_toArray, List.getElem_cons_zero, Act.put, List.setIfInBounds_toArray, List.set_cons_zero, List.set_cons_succ]
      refine wpAnyT_take (i := 1) (v := ?v1cq) rfl (by kernel_rfl) (by kernel_rfl) (by kernel_rfl) (by kernel_rfl) (fun _ _ _ h => h) (Or.inl ⟨by rfl, ?y1cq⟩) hSc ?_
      case y1cq => (intro w hSw; (try dsimp only at hSw); go_simp; (try with_reducible rfl))
      simp only [List.getElem_toArray, List.getElem_cons_succ, List.getElem_cons_zero, Act.put, List.setIfInBounds_toArray, List.set_cons_zero, List.set_cons_succ]
      refine wpAnyT_take (i := 2) (v := ?v2cq) rfl (by kernel_rfl) (by kernel_rfl) (by kernel_rfl) (by kernel_rfl) (fun _ _ _ h => h) (Or.inl ⟨by rfl, ?y2cq⟩) hSc ?_
      case y2cq => (intro w hSw; (try dsimp only at hSw); go_simp; (try with_reducible rfl))
      simp only [List.getElem_toArray, List.getElem_cons_succ, List.getElem_cons_zero, Act.put, List.setIfInBounds_toArray, List.set_cons_zero, List.set_cons_succ]
      refine wpAnyT_take (i := 3) (v := ?v3cq) rfl (by kernel_rfl) (by kernel_rfl) (by kernel_rfl) (by kernel_rfl) (fun _ _ _ h => h) (Or.inl ⟨by rfl, ?y3cq⟩) hSc ?_
      case y3cq => (intro w hSw; (try dsimp only at hSw); go_simp; (try with_reducible rfl))
      simp only [List.getElem_toArray, List.getElem_cons_succ, List.getElem_cons_zero, Act.put, List.setIfInBounds_toArray, List.set_cons_zero, List.set_cons_succ]
      refine wpAnyT_take (i := 4) (v := ?v4cq) rfl (by kernel_rfl) (by kernel_rfl) (by kernel_rfl) (by kernel_rfl) (fun _ _ _ h => h) (Or.inl ⟨by rfl, ?y4cq⟩) hSc ?_
      case y4cq => (intro w hSw; (try dsimp only at hSw); go_simp; (try with_reducible rfl))
      simp only [List.getElem_toArray, List.getElem_cons_succ, List.getElem_cons_zero, Act.put, List.setIfInBounds_toArray, List.set_cons_zero, List.set_cons_succ]
      refine wpAnyT_take (i := 5) (v := ?v5cq) rfl (by kernel_rfl) (by kernel_rfl) (by kernel_rfl) (by kernel_rfl) (fun _ _ _ h => h) (Or.inl ⟨by rfl, ?y5cq⟩) hSc ?_
      case y5cq => (intro w hSw; (try dsimp only at hSw); go_simp; (try with_reducible rfl))
      simp only [List.getElem_toArray, List.getElem_cons_succ, List.getElem_cons_zero, Act.put, List.setIfInBounds_toArray, List.set_cons_zero, List.set_cons_succ]
      refine wpAnyT_take (i := 6) (v := ?v6cq) rfl (by kernel_rfl) (by kernel_rfl) (by kernel_rfl) (by kernel_rfl) (fun _ _ _ h => h) (Or.inl ⟨by rfl, ?y6cq⟩) hSc ?_
      case y6cq => (intro w hSw; (try dsimp only at hSw); go_simp; (try with_reducible rfl))
      simp only [List.getElem_toArray, List.getElem_cons_succ, List.getElem_cons_zero, Act.put, List.setIfInBounds_toArray, List.set_cons_zero, List.set_cons_succ]
      refine wpAnyT_take (i := 7) (v := ?v7cq) rfl (by kernel_rfl) (by kernel_rfl) (by kernel_rfl) (by kernel_rfl) (fun _ _ _ h => h) (Or.inl ⟨by rfl, ?y7cq⟩) hSc ?_
      case y7cq => (intro w hSw; (try dsimp only at hSw); go_simp; (try with_reducible rfl))
      simp only [List.getElem_toArray, List.getElem_cons_succ, List.getElem_cons_zero, Act.put, List.setIfInBounds_toArray, List.set_cons_zero, List.set_cons_succ]
      refine wpAnyT_one (i := 8) (by kernel_rfl) rfl (fun K hK => ?_)
      go_simp
      refine (noted_any 1 _).mono ?_
      rintro e w1c ⟨rfl, k1c⟩
      have S1c : (fun w' : World => w'.cell? ⟨f, 3, none⟩ = some (.slice none 0 0) ∧ w'.cell? ⟨p, 1, none⟩ = some (.int .i64 1) ∧ w'.cell? ⟨f, 2, none⟩ = some (.int .i64 1)) w1c := ⟨(k1c.cell (World.block_lt_of_cell? _ _ d3c) (by simp)).trans d3c, (k1c.cell (World.block_lt_of_cell? _ _ q1c) (by simp)).trans q1c, (k1c.cell (World.block_lt_of_cell? _ _ d2c) (by simp)).trans d2c⟩
      have g3c : w1c.frozen? ⟨f, 3, none⟩ = false := (k1c.frozen (p := ⟨f, 3, none⟩) (World.block_lt_of_cell? _ _ d3c) (by simp)).trans e3c
      have KKc : Hid (Kp [] W4 w1c) := hid ((Kp.drew _ _).trans k1c)
      have F1c := hid (FV.out.keep KKc.out)
      clear k1c
      refine hK.out _ _ (.inr S1c) ?_
      clear hK K
      refine wpAnyT_take (i := 9) (v := ?v9cq) rfl (by kernel_rfl) (by kernel_rfl) (by kernel_rfl) (by kernel_rfl) (fun _ _ _ h => h) (Or.inl ⟨by rfl, ?y9cq⟩) S1c ?_
      case y9cq => (intro w hSw; (try dsimp only at hSw); go_simp; (try with_reducible rfl))
      simp only [List.getElem_toArray, List.getElem_cons_succ, List.getElem_cons_zero, Act.put, List.setIfInBounds_toArray, List.set_cons_zero, List.set_cons_succ]
      refine wpAnyT_one (i := 10) (by kernel_rfl) rfl (fun K hK => ?_)
      go_simp
      refine hK.out _ _ (.inr ⟨cell_al S1c.1 _, cell_al S1c.2.1 _, cell_al S1c.2.2 _⟩) ?_
      clear hK K
      refine wpAnyT_one (i := 11) (by kernel_rfl) rfl (fun K hK => ?_)
      refine step_append2 (by rfl) (.tmp 35) (.tmp 44) 50 (by rfl) w.heap.size 57 ti _ 22 176 Tryd.underlying50 HI.out HZ.out.1 HZ.out.2.1 HZ.out.2.2 rfl (by decide) (.slice none 0 0) 0 ([]) (by rfl) (F1c.out.o3.alloc _) ⟨w1c.heap.size, 0, none⟩ 1 1 (th 1 0 1) (by rfl) rfl (news_al w1c _ _ _ rfl) (th_one 1 0 1) (by unfold maxLen; omega) (by omega) (Nat.le_trans F1c.out.kp.size (by simp)) (by decide) ?_
      intro ghc chc w2c own2c grow2c or2c
      have fnec : some f ≠ (Value.ownBlock (.slice none 0 0)) := fun e => (F1c.out.x3 f e.symm).1 rfl
      have pnec : some p ≠ (Value.ownBlock (.slice none 0 0)) := own_ne F1c.out.o3 PF.out.hp
      have S2c : (fun w' : World => w'.cell? ⟨f, 3, none⟩ = some (.slice none 0 0) ∧ w'.cell? ⟨p, 1, none⟩ = some (.int .i64 1) ∧ w'.cell? ⟨f, 2, none⟩ = some (.int .i64 1)) w2c := ⟨grown_cell' grow2c fnec (cell_al S1c.1 _), grown_cell' grow2c pnec (cell_al S1c.2.1 _), grown_cell' grow2c fnec (cell_al S1c.2.2 _)⟩
      refine hK.out _ _ (.inr S2c) ?_
      clear hK K
      refine wpAnyT_one (i := 12) (by kernel_rfl) rfl (fun K hK => ?_)
      go_simp
      refine hK.out _ _ (.inr S2c) ?_
      clear hK K
      have s23c := S2c.1
      have sf3c : w2c.frozen? ⟨f, 3, none⟩ = false := (grown_free' grow2c (p := ⟨f, 3, none⟩) fnec (World.block_lt_of_cell? _ _ (cell_al S1c.1 _))).trans (((Kp.alloc [] w1c _).frozen (World.block_lt_of_cell? _ _ S1c.1) (by simp)).trans g3c)
      have FW := hid (FV.out.here (KKc.out.trans (Kp.alloc _ _ _)) grow2c own2c or2c)
      clear own2c grow2c or2c S2c S1c hSc d2c d3c q1c fnec pnec F1c KKc
      refine wpAnyT_one (i := 13) (by kernel_rfl) rfl (fun K hK => ?_)
      go_simp
      refine hK.out _ _ (.inl rfl) ?_
      clear hK K
      refine wpAnyT_done (by kernel_rfl) ?_ _
      refine NoPanic.normal ?_
      generalize w2c.setCell ⟨f, 3, none⟩ (.slice (some ⟨ghc, 0, none⟩) 1 chc) = W5 at *
      clear s23c sf3c g3c e3c
      have d3 := FW.out.c3
      go_wp2_with fail
      clear d3
      refine (goOn_end FW.out PF.out (by omega) (.inl (by rw [htl]; rfl))).mono ?_
      rintro e W6 ⟨rfl, u6, fe⟩
      have FE := hid fe
      clear fe
      have d1 := FE.out.c1
      have d2 : W6.cell? ⟨f, 2, none⟩ = some (.int .i64 1) := FE.out.c2
      have d7 := FE.out.c7
      have e2 := FE.out.free 2
      go_wp2_with fail
      rw [rounds_succ]
      go_wp2_with fail
      go_ret
      exact ⟨(FE.out.place 2).kp, .inr ⟨hm', rfl⟩⟩
end Go.Proofs.YtbakfojamdocgaaDoor
