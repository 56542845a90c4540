/- The tables of the commands: maps from a byte to a function. -/
import Derived.Test.YtonnimbcekhbgaaGreatDoorED
import Derived.ChangeMaps5
namespace Go.Proofs.YtonnimbcekhbgaaGreatDoor
open Go.RowKit Go.MapKept

section
variable {P : Program} {w : World} {t k e : TypeId} {b c : Nat} {es : Array MapEntry} {x : Int} {v : Value}

theorem Kp.setBlock (w : World) (b : Nat) (o : Obj) : Kp [b] w (ChangeMaps.setBlock w b o) :=
  ⟨rfl, rfl, rfl, by simp [ChangeMaps.setBlock], fun j hj hn => by
    simp only [ChangeMaps.setBlock]
    rw [Array.getElem?_setIfInBounds_ne (by simpa using fun e : b = j => hn (by simp [e]))]⟩

theorem run_putB (ht : P.underlying t = some (.map k e)) (hk : P.underlying k = some (.int .u8)) (hb : w.heap[b]? = some (.map es c)) (hf : Instr.findNow (.int .u8) (.int .u8 x) es.toList 0 = some none) :
    (Instr.mapUpdate t (.map (some b)) (.int .u8 x) v).run P w = .ok () (ChangeMaps.setBlock w b (.map (es.push ⟨.int .u8 x, v, c⟩) (c + 1))) := by
  have hkey : IsKey (.int .u8) (.int .u8 x) := by simp [IsKey]
  simp [Instr.mapUpdate, run_underlying ht, MapKept.run_getObj_map hb, run_checkKey hk hkey, run_findKey hk hf, MapKept.run_setObj_map _ hb, Result.andThen, ChangeMaps.setBlock]

theorem wpList_putB {ops : Array Oper} {rest : List Oper} {o : Oper} {a : Act} {Q : Exit → Act → World → Prop} (hg : o.guard = none) (s kk vv : Operand) (t : TypeId) (hop : o.op = Op.insert t s kk vv)
    (k e : TypeId) (ht : P.underlying t = some (.map k e)) (hk : P.underlying k = some (.int .u8)) (b : Nat) (es : Array MapEntry) (c : Nat) (x : Int) (hs : a.eval s = .map (some b)) (hx : a.eval kk = .int .u8 x)
    (hb : w.heap[b]? = some (.map es c)) (hf : Instr.findNow (.int .u8) (.int .u8 x) es.toList 0 = some none)
    (h : ∀ w', w'.heap[b]? = some (.map (es.push ⟨.int .u8 x, a.eval vv, c⟩) (c + 1)) → Kp [b] w w' → wpList P ops Q rest (a.put o.dst undef) w') : wpList P ops Q (o :: rest) a w :=
  wpList_plain hg fun _ hK => by
    have hl : b < w.heap.size := (Array.getElem?_eq_some_iff.1 hb).1
    have := run_putB (v := a.eval vv) ht hk hb hf
    unfold Oper.wp
    simp [execOp, hop, hs, hx, this, Result.andThen]
    refine hK _ _ (h _ ?_ (Kp.setBlock _ _ _))
    simp [ChangeMaps.setBlock, hl]

theorem wpList_makeMap {ops : Array Oper} {rest : List Oper} {o : Oper} {a : Act} {Q : Exit → Act → World → Prop} (hg : o.guard = none) (t : TypeId) (hop : o.op = Op.makeMap t none)
    (h : wpList P ops Q rest (a.put o.dst (.map (some w.heap.size))) (w.alloc (.map #[] 0))) : wpList P ops Q (o :: rest) a w :=
  wpList_plain hg fun _ hK => by
    unfold Oper.wp
    simp [execOp, hop, Instr.makeMap, newObj, Sem.run, Result.andThen]
    exact hK _ _ h
end

/-- The entries of the table. -/
def tabE : Nat → List (Nat × Nat) → List MapEntry
  | _, [] => []
  | c, (x, f) :: l => ⟨.int .u8 x, .func (.func f) #[] #[], c⟩ :: tabE (c + 1) l
def tabO (l : List (Nat × Nat)) : Obj := .map (tabE 0 l).toArray l.length
abbrev opsL : List (Nat × Nat) := [(123, 67), (125, 68), (58, 69), (98, 70), (116, 70), (97, 71), (105, 71), (99, 71), (115, 72), (121, 73), (113, 74), (119, 75), (100, 76), (68, 76), (103, 76), (71, 76), (104, 76), (72, 76), (120, 76), (110, 76), (78, 76), (112, 76), (80, 76), (108, 76), (61, 76)]
abbrev deedsL : List (Nat × Nat) := [(123, 36), (98, 37), (116, 38), (97, 39), (105, 40), (99, 41), (115, 42), (121, 43), (100, 44), (68, 45), (103, 46), (71, 47), (104, 48), (72, 49), (120, 50), (110, 51), (78, 52), (112, 53), (80, 54), (108, 55), (61, 56), (113, 57), (119, 58)]

set_option maxRecDepth 100000 in
set_option maxHeartbeats 4000000 in
theorem operands_any (w : World) : Calls Tryz.prog 34 #[] w fun e w' => e = .returned (.map (some w.heap.size)) ∧ w'.heap[w.heap.size]? = some (tabO opsL) ∧ Kp [] w w' := by
  have hb : (w.alloc (.map #[] 0)).heap[w.heap.size]? = some (.map #[] 0) := by show (w.heap.push _)[w.heap.size]? = _; simp
  have hkk : Kp [w.heap.size] w (w.alloc (.map #[] 0)) := Kp.alloc _ _ _
  go_enter Tryz.func34, Tryz.ntmps34
  go_wp2_with (first | (refine wpList_makeMap rfl 78 rfl ?_) | (refine wpList_putB rfl _ _ _ 78 rfl 5 102 Tryz.underlying78 Tryz.underlying5 w.heap.size _ _ _ rfl rfl hb (by kernel_rfl) ?_; clear hb; intro w1 hb hk; have hkk := hkk.trans hk; clear hk))
  go_ret
  exact ⟨rfl, hb.trans (by kernel_rfl), hkk.own (Nat.le_refl _)⟩
set_option maxRecDepth 100000 in
set_option maxHeartbeats 4000000 in
theorem deeds_any (w : World) : Calls Tryz.prog 27 #[] w fun e w' => e = .returned (.map (some w.heap.size)) ∧ w'.heap[w.heap.size]? = some (tabO deedsL) ∧ Kp [] w w' := by
  have hb : (w.alloc (.map #[] 0)).heap[w.heap.size]? = some (.map #[] 0) := by show (w.heap.push _)[w.heap.size]? = _; simp
  have hkk : Kp [w.heap.size] w (w.alloc (.map #[] 0)) := Kp.alloc _ _ _
  go_enter Tryz.func27, Tryz.ntmps27
  go_wp2_with (first | (refine wpList_makeMap rfl 61 rfl ?_) | (refine wpList_putB rfl _ _ _ 61 rfl 5 84 Tryz.underlying61 Tryz.underlying5 w.heap.size _ _ _ rfl rfl hb (by kernel_rfl) ?_; clear hb; intro w1 hb hk; have hkk := hkk.trans hk; clear hk))
  go_ret
  exact ⟨rfl, hb.trans (by kernel_rfl), hkk.own (Nat.le_refl _)⟩
end Go.Proofs.YtonnimbcekhbgaaGreatDoor
