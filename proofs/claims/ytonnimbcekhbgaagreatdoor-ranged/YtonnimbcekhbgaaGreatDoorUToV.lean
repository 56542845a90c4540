/- One text out of several: U V. -/
import Derived.Test.YtonnimbcekhbgaaGreatDoorOToQ

/- The finder: the pattern's end. -/
namespace Go.Proofs.YtonnimbcekhbgaaGreatDoor
open Go.RowKit

/-- What is left behind the pattern's end. -/
structure Ends (f : Nat) (x pl : Int) (w w' : World) : Prop where
  found : w'.cell? ⟨f, 7, none⟩ = some (.bool true)
  best0 : w'.cell? ⟨f, 8, none⟩ = some (.int .i64 x)
  best1 : w'.cell? ⟨f, 9, none⟩ = some (.int .i64 pl)
  cell : ∀ i, i < 7 → w'.cell? ⟨f, i, none⟩ = w.cell? ⟨f, i, none⟩
  free : ∀ i, w'.frozen? ⟨f, i, none⟩ = w.frozen? ⟨f, i, none⟩
  kept : Kp [f] w w'

theorem there_seven {w : World} {f : Nat} (h : w.there f 8 20) (v : Value) (n : Nat) : ((w.drewN n).setCell ⟨f, 7, none⟩ v).there f 8 20 := fun j hj => by
  have q := h j hj
  refine ⟨?_, ?_⟩
  · rw [cell_other _ (fun e => by injection e with _ e2 _; omega)]; exact q.1
  · have h1 : ((w.drewN n).setCell ⟨f, 7, none⟩ v).frozen? ⟨f, 8 + j, none⟩ = w.frozen? ⟨f, 8 + j, none⟩ := by simp
    rw [h1]; exact q.2
theorem notes_all (x : Int) : (notesV x).toArray.all (·.oneCell') = true := all_oneCell_toArray (fun v hv => th_one 0 0 x v (List.mem_cons_of_mem _ (List.mem_cons_of_mem _ hv)))

set_option maxRecDepth 100000 in
set_option maxHeartbeats 2000000 in
theorem step_found {w : World} {f p t g n c a pl : Nat} {x : Int} {b7 : Bool}
    (c0 : w.cell? ⟨f, 0, none⟩ = some (.pointer (some ⟨p, 0, none⟩))) (c2 : w.cell? ⟨f, 2, none⟩ = some (.int .i64 pl)) (c7 : w.cell? ⟨f, 7, none⟩ = some (.bool b7))
    (hth : w.there f 8 20) (hfr : ∀ i, w.frozen? ⟨f, i, none⟩ = false)
    (p0 : w.cell? ⟨p, 0, none⟩ = some (.slice (some ⟨g, 0, none⟩) n c)) (t0 : w.cell? ⟨t, 0, none⟩ = some (.int .i64 a)) (hr : w.rangeAt t 2 (notesV x)) (ha : a < n)
    (i0 : w.cell? ⟨g, a * 9, none⟩ = some (.int .i64 6)) :
    Calls Tryz.prog 166 #[.pointer (some ⟨f, 0, none⟩), .pointer (some ⟨t, 0, none⟩)] w fun e w' => e = .returned (.bool false) ∧ Ends f x pl w w' := by
  have HR := hid hr
  have HT := hid hth
  have f7 := hfr 7
  have HF := hid hfr
  clear hr hth hfr
  go_enter Tryz.func166, Tryz.ntmps166
  go_wp2
  go_quiet (fail)
  go_wp2_with (first | (refine wpList_load_mid rfl 162 (.tmp 153) rfl t 2 rfl (notesV x) _ HR.out Tryz.underlying162 rfl Tryz.szNotes ?_) | (refine wpList_store_mid rfl 162 (.tmp 158) (.tmp 154) rfl f 8 (notesV x).toArray rfl rfl (there_seven HT.out _ _) Tryz.szNotes (notes_all x) ?_))
  obtain ⟨W, hW⟩ : ∃ W : World, W = ((w.drewN nq).setCell ⟨f, 7, none⟩ (.bool true)).setCells f 8 (notesV x) := ⟨_, rfl⟩
  rw [← hW]
  have hth0 := there_seven HT.out (.bool true) nq
  have hr : W.rangeAt f 8 (notesV x) := by rw [hW]; exact World.rangeAt_setCells_same _ f 8 (notesV x) hth0
  have b0 : W.cell? ⟨f, 8, none⟩ = some (.int .i64 x) := hr 0 _ rfl
  have b1 : W.cell? ⟨f, 9, none⟩ = some (.int .i64 (-1)) := hr 1 _ rfl
  have hcell : ∀ i, i < 7 → W.cell? ⟨f, i, none⟩ = w.cell? ⟨f, i, none⟩ := fun i hi => by
    rw [hW, World.cell?_setCells_out f _ 8 _ _ (fun _ _ => .inl (by show i < 8; omega)), cell_other _ (fun e => by injection e with _ e2 _; omega)]; rfl
  have h7 : W.cell? ⟨f, 7, none⟩ = some (.bool true) := by
    rw [hW, World.cell?_setCells_out f _ 8 _ _ (fun _ _ => .inl (by show 7 < 8; omega))]; exact cell_same (w := w.drewN nq) _ c7
  have hfz : ∀ i, W.frozen? ⟨f, i, none⟩ = w.frozen? ⟨f, i, none⟩ := fun i => by rw [hW, World.frozen?_setCells]; simp
  have kW : Kp [f] w W := by rw [hW]; exact (Kp.drewN _ _ _).trans ((Kp.setCell _ _ (by simp)).trans (Kp.setCells (by simp) _ _ _))
  have e2 := (hcell 2 (by omega)).trans c2
  have g9 := (hfz 9).trans (HF.out 9)
  have H1 := hid hcell
  have H2 := hid hfz
  have H3 := hid h7
  have H4 := hid b0
  clear hW hr hcell hfz h7 b0 c0 c2 c7 p0 t0 i0 f7 hth0
  go_region
  go_wp2
  go_ret
  refine ⟨rfl, ?_, ?_, ?_, fun i hi => ?_, fun i => ?_, kW.trans ((Kp.setCell _ _ (by simp)).trans (Kp.drew _ _))⟩
  · exact (cell_other (w := W) (a := ⟨f, 9, none⟩) (c := ⟨f, 7, none⟩) _ (fun e => by injection e with _ e2 _; omega)).trans H3.out
  · exact (cell_other (w := W) (a := ⟨f, 9, none⟩) (c := ⟨f, 8, none⟩) _ (fun e => by injection e with _ e2 _; omega)).trans H4.out
  · exact cell_same (w := W) _ b1
  · exact (cell_other (w := W) (a := ⟨f, 9, none⟩) (c := ⟨f, i, none⟩) _ (fun e => by injection e with _ e2 _; omega)).trans (H1.out i hi)
  · have h1 : ((W.setCell ⟨f, 9, none⟩ (.int .i64 pl)).drew).frozen? ⟨f, i, none⟩ = W.frozen? ⟨f, i, none⟩ := by simp
    exact h1.trans (H2.out i)
end Go.Proofs.YtonnimbcekhbgaaGreatDoor

/- Rows that lie in memory, and the finder's two lists that change places: plain facts. -/
namespace Go.Proofs.YtonnimbcekhbgaaGreatDoor
open Go.RowKit

theorem ownsRow_empty {w : World} {base size n : Nat} {e : TypeId} {g c : Nat} {xs : List Value} (h : w.ownsRow base e size (.slice (some ⟨g, 0, none⟩) n c) n xs) : w.ownsRow base e size (.slice (some ⟨g, 0, none⟩) 0 c) 0 [] := by
  refine ⟨by simp, ?_⟩
  rcases h.2 with ⟨q, _⟩ | ⟨g', cap, cur, q1, q2, q3, q4, q5, q6, _⟩
  · simp at q
  · simp at q1
    obtain ⟨rfl, rfl⟩ := q1
    exact .inr ⟨g, c, cur, rfl, q2, q3, Nat.zero_le _, q5, q6, by simp⟩

theorem own_ne_new {w : World} {base size n : Nat} {e : TypeId} {v : Value} {xs : List Value} (h : w.ownsRow base e size v n xs) : some w.heap.size ≠ v.ownBlock := by
  rcases h.2 with ⟨hv, _⟩ | ⟨g, cap, cur, hv, _, q3, _⟩
  · rw [hv]; simp [Value.ownBlock]
  · rw [hv]
    have := lt_of_block q3
    simp [Value.ownBlock]; omega

theorem Tryz.szThread : (Tryz.prog.info? 189).map (·.size) = some 22 := by kernel_rfl

/-- The lists have changed places. -/
structure Swapped (f : Nat) (v3 v4 : Value) (w w' : World) : Prop where
  c3 : w'.cell? ⟨f, 3, none⟩ = some v3
  c4 : w'.cell? ⟨f, 4, none⟩ = some v4
  cell : ∀ i, i ≠ 3 → i ≠ 4 → w'.cell? ⟨f, i, none⟩ = w.cell? ⟨f, i, none⟩
  free : ∀ i, w'.frozen? ⟨f, i, none⟩ = w.frozen? ⟨f, i, none⟩
  kept : Kp [f] w w'

theorem swapped_of {f : Nat} {v u a b : Value} {w : World} (e3 : w.cell? ⟨f, 3, none⟩ = some a) (e4 : w.cell? ⟨f, 4, none⟩ = some b) : Swapped f v u w (((w.setCell ⟨f, 3, none⟩ v).setCell ⟨f, 4, none⟩ u).drew) := by
  have n34 : (⟨f, 3, none⟩ : Addr) ≠ ⟨f, 4, none⟩ := fun e => by injection e with _ e2 _; omega
  refine ⟨?_, ?_, fun i h3 h4 => ?_, fun i => ?_, (Kp.setCell _ _ (by simp)).trans ((Kp.setCell _ _ (by simp)).trans (Kp.drew _ _))⟩
  · exact (cell_other (w := w.setCell ⟨f, 3, none⟩ v) _ (Ne.symm n34)).trans (cell_same _ e3)
  · exact cell_same (w := w.setCell ⟨f, 3, none⟩ v) _ ((cell_other _ n34).trans e4)
  · exact (cell_other (w := w.setCell ⟨f, 3, none⟩ v) _ (fun e => by injection e with _ e2 _; exact h4 e2.symm)).trans (cell_other _ (fun e => by injection e with _ e2 _; exact h3 e2.symm))
  · have h1 : (((w.setCell ⟨f, 3, none⟩ v).setCell ⟨f, 4, none⟩ u).drew).frozen? ⟨f, i, none⟩ = w.frozen? ⟨f, i, none⟩ := by simp
    exact h1

theorem owns_of_block {w w' : World} {base size n : Nat} {e : TypeId} {v : Value} {xs : List Value} (h : w.ownsRow base e size v n xs) (hb : ∀ k, v.ownBlock = some k → k < w.heap.size → w'.heap[k]? = w.heap[k]?) : w'.ownsRow base e size v n xs := by
  refine ⟨h.1, ?_⟩
  rcases h.2 with q | ⟨g, cap, cur, q1, q2, q3, q4⟩
  · exact .inl q
  · exact .inr ⟨g, cap, cur, q1, q2, (hb g (by rw [q1]; rfl) (lt_of_block q3)).trans q3, q4⟩

theorem slice_of {w : World} {base size n : Nat} {e : TypeId} {v : Value} {xs : List Value} (h : w.ownsRow base e size v n xs) : ∃ ao n c, v = .slice ao n c := by
  rcases h.2 with ⟨q, _⟩ | ⟨g, cap, cur, q1, _⟩
  · exact ⟨_, _, _, q⟩
  · exact ⟨_, _, _, q1⟩

theorem row_at {w : World} {base size n gh ch : Nat} {e : TypeId} {xs : List Value} (h : w.ownsRow base e size (.slice (some ⟨gh, 0, none⟩) n ch) n xs) : w.rangeAt gh 0 xs := fun j u hu => by
  have hj : j < n * size := by rw [← h.1]; exact (List.getElem?_eq_some_iff.1 hu).1
  rw [Nat.zero_add, h.cellAt j hj]; exact hu

theorem row_cap {w : World} {base size n gh ch : Nat} {e : TypeId} {xs : List Value} (h : w.ownsRow base e size (.slice (some ⟨gh, 0, none⟩) n ch) n xs) : n ≤ ch := by
  rcases h.2 with ⟨q, _⟩ | ⟨g, cap, cur, q1, _, _, q4, _⟩
  · cases q
  · simp at q1
    omega
end Go.Proofs.YtonnimbcekhbgaaGreatDoor
