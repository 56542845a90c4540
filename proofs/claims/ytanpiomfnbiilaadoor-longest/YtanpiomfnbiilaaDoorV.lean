/- Rows that lie in memory, and the finder's two lists that change places: plain facts. -/
import Derived.Test.YtanpiomfnbiilaaDoorU
namespace Go.Proofs.YtanpiomfnbiilaaDoor
open Go.RowKit

theorem ownsRow_empty {w : World} {base size n : Nat} {e : TypeId} {g c : Nat} {xs : List Value} (h : w.ownsRow base e size (.slice (some ⟨g, 0, none⟩) n c) n xs) : w.ownsRow base e size (.slice (some ⟨g, 0, none⟩) 0 c) 0 [] := by
  refine ⟨by simp, ?_⟩
  rcases h.2 with ⟨q, _⟩ | ⟨g', cap, cur, q1, q2, q3, q4, q5, q6, _⟩
  · simp at q
  · simp at q1
    obtain ⟨rfl, rfl⟩ := q1
    exact .inr ⟨g, c, cur, rfl, q2, q3, Nat.zero_le _, q5, q6, by simp⟩

theorem own_ne_new {w : World} {base size n : Nat} {e : TypeId} {v : Value} {xs : List Value} (h : w.ownsRow base e size v n xs) : some w.heap.size ≠ v.ownBlock := by
  rcases h.2 with ⟨hv, _⟩ | ⟨g, cap, cur, hv, _, q3, _⟩
  · rw [hv]; simp [Value.ownBlock]
  · rw [hv]
    have := lt_of_block q3
    simp [Value.ownBlock]; omega

theorem Tryd.szThread : (Tryd.prog.info? 88).map (·.size) = some 22 := by kernel_rfl

/-- The lists have changed places. -/
structure Swapped (f : Nat) (v3 v4 : Value) (w w' : World) : Prop where
  c3 : w'.cell? ⟨f, 3, none⟩ = some v3
  c4 : w'.cell? ⟨f, 4, none⟩ = some v4
  cell : ∀ i, i ≠ 3 → i ≠ 4 → w'.cell? ⟨f, i, none⟩ = w.cell? ⟨f, i, none⟩
  free : ∀ i, w'.frozen? ⟨f, i, none⟩ = w.frozen? ⟨f, i, none⟩
  kept : Kp [f] w w'

theorem swapped_of {f : Nat} {v u a b : Value} {w : World} (e3 : w.cell? ⟨f, 3, none⟩ = some a) (e4 : w.cell? ⟨f, 4, none⟩ = some b) : Swapped f v u w (((w.setCell ⟨f, 3, none⟩ v).setCell ⟨f, 4, none⟩ u).drew) := by
  have n34 : (⟨f, 3, none⟩ : Addr) ≠ ⟨f, 4, none⟩ := fun e => by injection e with _ e2 _; omega
  refine ⟨?_, ?_, fun i h3 h4 => ?_, fun i => ?_, (Kp.setCell _ _ (by simp)).trans ((Kp.setCell _ _ (by simp)).trans (Kp.drew _ _))⟩
  · exact (cell_other (w := w.setCell ⟨f, 3, none⟩ v) _ (Ne.symm n34)).trans (cell_same _ e3)
  · exact cell_same (w := w.setCell ⟨f, 3, none⟩ v) _ ((cell_other _ n34).trans e4)
  · exact (cell_other (w := w.setCell ⟨f, 3, none⟩ v) _ (fun e => by injection e with _ e2 _; exact h4 e2.symm)).trans (cell_other _ (fun e => by injection e with _ e2 _; exact h3 e2.symm))
  · have h1 : (((w.setCell ⟨f, 3, none⟩ v).setCell ⟨f, 4, none⟩ u).drew).frozen? ⟨f, i, none⟩ = w.frozen? ⟨f, i, none⟩ := by simp
    exact h1

theorem owns_of_block {w w' : World} {base size n : Nat} {e : TypeId} {v : Value} {xs : List Value} (h : w.ownsRow base e size v n xs) (hb : ∀ k, v.ownBlock = some k → k < w.heap.size → w'.heap[k]? = w.heap[k]?) : w'.ownsRow base e size v n xs := by
  refine ⟨h.1, ?_⟩
  rcases h.2 with q | ⟨g, cap, cur, q1, q2, q3, q4⟩
  · exact .inl q
  · exact .inr ⟨g, cap, cur, q1, q2, (hb g (by rw [q1]; rfl) (lt_of_block q3)).trans q3, q4⟩

theorem slice_of {w : World} {base size n : Nat} {e : TypeId} {v : Value} {xs : List Value} (h : w.ownsRow base e size v n xs) : ∃ ao n c, v = .slice ao n c := by
  rcases h.2 with ⟨q, _⟩ | ⟨g, cap, cur, q1, _⟩
  · exact ⟨_, _, _, q⟩
  · exact ⟨_, _, _, q1⟩

theorem row_at {w : World} {base size n gh ch : Nat} {e : TypeId} {xs : List Value} (h : w.ownsRow base e size (.slice (some ⟨gh, 0, none⟩) n ch) n xs) : w.rangeAt gh 0 xs := fun j u hu => by
  have hj : j < n * size := by rw [← h.1]; exact (List.getElem?_eq_some_iff.1 hu).1
  rw [Nat.zero_add, h.cellAt j hj]; exact hu

theorem row_cap {w : World} {base size n gh ch : Nat} {e : TypeId} {xs : List Value} (h : w.ownsRow base e size (.slice (some ⟨gh, 0, none⟩) n ch) n xs) : n ≤ ch := by
  rcases h.2 with ⟨q, _⟩ | ⟨g, cap, cur, q1, _, _, q4, _⟩
  · cases q
  · simp at q1
    omega
end Go.Proofs.YtanpiomfnbiilaaDoor
