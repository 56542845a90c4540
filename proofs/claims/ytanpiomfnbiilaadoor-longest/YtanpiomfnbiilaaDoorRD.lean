/- A pattern that is a row of pieces is read; its instructions as a chain: contracts. -/
import Derived.Test.YtanpiomfnbiilaaDoorRC
import Derived.Test.YtanpiomfnbiilaaDoorPD
namespace Go.Proofs.YtanpiomfnbiilaaDoor
open Go.RowKit

theorem reads_row {src : ByteArray} {fr : Nat} {pcs : List Pc} (hlen : pcs.length ≤ 200) (hp : ∀ b, b ≠ 0 → RowOk b src 0 fr (pcs.map Pc.val)) :
    Reads src fr 0 (1 + pcs.length) (rowBegin pcs.reverse 1 0) 0 (ins0 6 0 0 0 0 ++ rowCode 0 pcs.reverse 1 0) := by
  intro w b hb hr hw
  refine (whole_row hr hw hb (hp b hb) (by simp; omega)).mono ?_
  rintro e w1 ⟨q, v, rfl, hq1, hq2, hq3, own1, r1, k1⟩
  rw [List.length_map] at own1
  refine ⟨_, pcs.length, rfl, r1, k1, by omega, ?_, ?_⟩
  · intro w2 k2
    exact branches_size_row ((k2.cell (p := ⟨q, 0, none⟩) hq2 (by simp)).trans hq3) (ownsRow_keep own1 k2 (by simp)) hlen
  · intro w2 L k2 hL w4 b4 l4
    have := branches_emit_row l4 (by omega) 0 ((b4.cell (p := ⟨q, 0, none⟩) (by show q < L; omega)).trans ((k2.cell (p := ⟨q, 0, none⟩) hq2 (by simp)).trans hq3)) (owns_of_block (ownsRow_keep own1 k2 (by simp)) (fun kk hkk _ => b4.block kk (by have := (own1.lt kk hkk).2; omega))) hlen (fun g hg => by have := (own1.lt g hg).2; omega)
    exact this
end Go.Proofs.YtanpiomfnbiilaaDoor
