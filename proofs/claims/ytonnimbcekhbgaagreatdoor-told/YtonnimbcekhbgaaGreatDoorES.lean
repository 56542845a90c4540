/- A slice literal of one struct. -/
import Derived.Test.YtonnimbcekhbgaaGreatDoorER
import Derived.Great.BuildSlice
namespace Go.Proofs.YtonnimbcekhbgaaGreatDoor
open Go.RowKit

theorem fold_set : ∀ (l : List Value) (o : Nat) (z : Array Value), o + l.length ≤ z.size → ((l.zipIdx o).foldl (fun (cs : Array Value) (p : Value × Nat) => cs.setIfInBounds p.2 p.1) z).toList = z.toList.take o ++ l ++ z.toList.drop (o + l.length)
  | [], o, z, _ => by simp
  | v :: l, o, z, h => by
    rw [List.length_cons] at h
    rw [List.zipIdx_cons, List.foldl_cons, fold_set l (o + 1) _ (by simp; omega)]
    have ho : o < z.toList.length := by simp; omega
    rw [Array.toList_setIfInBounds, List.take_set, List.drop_set_of_lt (by omega), List.length_cons, show o + 1 + l.length = o + (l.length + 1) by omega]
    congr 1
    rw [show v :: l = [v] ++ l from rfl, ← List.append_assoc]
    congr 1
    rw [List.take_succ_eq_append_getElem ho, List.set_append_right _ _ (by rw [List.length_take]; omega)]
    congr 1
    rw [List.length_take, Nat.min_eq_left (by omega), Nat.sub_self]
    rfl

theorem fill_one {n : Nat} {z : Array Value} {cv : List Value} (h : cv.length = n) (hz : z.size = n) : Instr.fill (fun i => some (i * n, n)) z [(0, .agg cv.toArray)] = some cv.toArray := by
  have e := fold_set cv 0 z (by omega)
  simp only [Nat.zero_add, List.take_zero, List.nil_append] at e
  rw [List.drop_eq_nil_of_le (by simp; omega), List.append_nil] at e
  simp [Instr.fill, Value.cells, h, hz]
  apply Array.toList_inj.1
  exact e

/-- A slice literal of one struct, as one step of a region that draws its order. -/
theorem step_one {P : Program} {ops : Array Oper} {o : Oper} {a : Act} {w : World} {K : Act → World → Prop} {Q : Exit → Act → World → Prop} {E : Prop} (hg : o.guard = none) (t e : TypeId) (x : Operand) (ho : o.op = .buildSlice t 1 #[(0, x)])
    (cv : List Value) (ie : TypeInfo) (z : Value) (n : Nat) (hx : a.eval x = .agg cv.toArray) (hu : P.underlying t = some (.slice e)) (hie : P.info? e = some ie) (hz : ie.zero = some z) (hn : ie.size = n) (hzs : z.cells.size = n) (hl : cv.length = n) (h0 : 0 < n) (h24 : n ≤ 1000)
    (h : K (a.put o.dst (.slice (some ⟨w.heap.size, 0, none⟩) 1 1)) (w.alloc (.cells cv.toArray e))) : if Region.wanted o (yielded ops a.tmps) = true then Oper.wp P o a w K Q else E := by
  have hw : Region.wanted o (yielded ops a.tmps) = true := by simp [Region.wanted, hg]
  rw [if_pos hw]
  refine wp_buildSlice t e 1 _ ho cv.toArray ie z hu hie hz (by rw [hn]; omega) (by rw [hn]; omega) ?_ h
  simp only [List.map_toArray, List.map_cons, List.map_nil, hx, hn]
  exact fill_one hl (by simp)
end Go.Proofs.YtonnimbcekhbgaaGreatDoor
