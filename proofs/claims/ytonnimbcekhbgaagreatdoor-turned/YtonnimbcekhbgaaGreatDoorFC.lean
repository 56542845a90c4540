/- A machine is made: what it holds at first. -/
import Derived.Test.YtonnimbcekhbgaaGreatDoorEY
import Derived.Laws.MakeOwn
namespace Go.Proofs.YtonnimbcekhbgaaGreatDoor
open Go.RowKit

section
variable {P : Program} {md : Region.Mode} {ops : Array Oper} {Q : Exit → Act → World → Prop} {S : World → Prop} {z : Nat}
/-- Three may come up. -/
theorem wpAnyT_three {i j k : Nat} {o o' o'' : Oper} {fuel : Nat} {listed : Array Bool} {a : Act} {w : World} (hr : Region.ready md ops listed = [i, j, k]) (ho : ops[i]? = some o) (ho' : ops[j]? = some o') (ho'' : ops[k]? = some o'')
    (h : ∀ K : Act → World → Prop, Shut (∀ a' w', (i = z ∨ S w') → wpAnyT P md ops Q S z fuel (listed.setIfInBounds i true) a' w' → K a' w') → if Region.wanted o (yielded ops a.tmps) = true then Oper.wp P o a w K Q else K (a.put o.dst undef) w)
    (h' : ∀ K : Act → World → Prop, Shut (∀ a' w', (j = z ∨ S w') → wpAnyT P md ops Q S z fuel (listed.setIfInBounds j true) a' w' → K a' w') → if Region.wanted o' (yielded ops a.tmps) = true then Oper.wp P o' a w K Q else K (a.put o'.dst undef) w)
    (h'' : ∀ K : Act → World → Prop, Shut (∀ a' w', (k = z ∨ S w') → wpAnyT P md ops Q S z fuel (listed.setIfInBounds k true) a' w' → K a' w') → if Region.wanted o'' (yielded ops a.tmps) = true then Oper.wp P o'' a w K Q else K (a.put o''.dst undef) w) :
    wpAnyT P md ops Q S z (fuel + 1) listed a w := by
  refine ⟨fun h0 => (by rw [hr] at h0; cases h0), fun q hq => ?_⟩
  rw [hr] at hq
  rcases List.mem_cons.1 hq with e | hq
  · subst e; exact wpOp_step ho (fun K hK => h K (fun a' w' h1 h2 => hK a' w' ⟨h1, h2⟩))
  · rcases List.mem_cons.1 hq with e | hq
    · subst e; exact wpOp_step ho' (fun K hK => h' K (fun a' w' h1 h2 => hK a' w' ⟨h1, h2⟩))
    · have e := List.mem_singleton.1 hq
      subst e
      exact wpOp_step ho'' (fun K hK => h'' K (fun a' w' h1 h2 => hK a' w' ⟨h1, h2⟩))
end

/-- 'make', as one step of a region that draws its order. -/
theorem step_make {P : Program} {ops : Array Oper} {o : Oper} {a : Act} {w : World} {K : Act → World → Prop} {Q : Exit → Act → World → Prop} {E : Prop} (hg : o.guard = none) (t : TypeId) (x y : Operand) (ho : o.op = .makeSlice t x y)
    (n : Nat) (hx : a.eval x = .int .i64 n) (hy : a.eval y = .int .i64 n) (e : TypeId) (i : TypeInfo) (z : Value) (ht : P.underlying t = some (.slice e)) (hi : P.info? e = some i) (hz : i.zero = some z) (hs : i.size = 1) (hb : i.bytes ≤ 100) (hn : n ≤ 100000)
    (h : ∀ w', w'.heap[w.heap.size]? = some (.cells (madeCells z.cells n) e) → Kp [] w w' → K (a.put o.dst (.slice (some ⟨w.heap.size, 0, none⟩) n n)) w') : if Region.wanted o (yielded ops a.tmps) = true then Oper.wp P o a w K Q else E := by
  have hw : Region.wanted o (yielded ops a.tmps) = true := by simp [Region.wanted, hg]
  rw [if_pos hw]
  have hbn : (i.bytes : Int) * (n : Int) ≤ 281474976710656 := by
    have h1 : i.bytes * n ≤ 100 * 100000 := Nat.mul_le_mul hb hn
    have h2 : ((i.bytes * n : Nat) : Int) ≤ ((100 * 100000 : Nat) : Int) := by omega
    rw [Int.natCast_mul] at h2
    omega
  have hr := run_make (P := P) w t e i z ht hi hz .i64 .i64 n n (by omega) (by omega) hbn (by omega)
  simp only [Int.toNat_natCast, hs, Nat.mul_one] at hr
  have hh := h (w.alloc (.cells (madeCells z.cells n) e)) (heap_alloc_new w _) (Kp.alloc _ _ _)
  unfold Oper.wp
  simp [execOp, ho, hx, hy, hr, Result.andThen]
  exact hh

/-- The machine at first. -/
def mst0 (ah : Bool) (fb nf rb nr : Nat) : Mst := ⟨⟨#[]⟩, ah, false, 0, 0, ⟨#[]⟩, ⟨#[]⟩, bwV, 0, 0, false, false, 0, 0, ⟨.slice none 0 0, [], .slice (some ⟨fb, 0, none⟩) nf nf, List.replicate nf (.slice none 0 0), List.replicate nf [], .slice (some ⟨rb, 0, none⟩) nr nr, List.replicate nr false, .slice none 0 0, []⟩⟩

theorem mac_new {w W : World} {db fb rb nf nr sb : Nat} {ah : Bool} (k : Kp [] w W) (fd : W.heap[db]? = some (tabO deedsL)) (ff : W.heap[fb]? = some (.cells (madeCells #[.slice none 0 0] nf) 34)) (fr : W.heap[rb]? = some (.cells (madeCells #[.bool false] nr) 4))
    (ld : w.heap.size ≤ db) (lf : w.heap.size ≤ fb) (lr : w.heap.size ≤ rb) (ndf : db ≠ fb) (ndr : db ≠ rb) (nfr : fb ≠ rb) (hf : nf ≤ 100000) (hr : nr ≤ 100000) :
    Mac w (W.alloc (.cells (macV sb db (mst0 ah fb nf rb nr)).toArray 72)) W.heap.size sb db (mst0 ah fb nf rb nr) := by
  have ka := Kp.alloc [] W (.cells (macV sb db (mst0 ah fb nf rb nr)).toArray 72)
  have dl := lt_blk fd
  have fl := lt_blk ff
  have rl := lt_blk fr
  have ks := k.size
  have fd' := (ka.block db dl (by simp)).trans fd
  have ff' := (ka.block fb fl (by simp)).trans ff
  have fr' := (ka.block rb rl (by simp)).trans fr
  have za : (W.alloc (.cells (macV sb db (mst0 ah fb nf rb nr)).toArray 72)).heap.size = W.heap.size + 1 := by simp
  have hB : ∀ i p, maB W.heap.size db (mst0 ah fb nf rb nr).r i = some p → (i = 0 ∧ p = W.heap.size) ∨ (i = 1 ∧ p = db) ∨ (i = 3 ∧ p = fb) ∨ (i = 4 ∧ p = rb) := fun i p hp => by
    rcases i with _ | _ | _ | _ | _ | _ | i
    · simp [maB] at hp; omega
    · simp [maB] at hp; omega
    · simp [maB, mst0, Value.ownBlock] at hp
    · simp [maB, mst0, Value.ownBlock] at hp; omega
    · simp [maB, mst0, Value.ownBlock] at hp; omega
    · simp [maB, mst0, Value.ownBlock] at hp
    · exfalso
      simp only [maB, mst0] at hp
      rw [List.getElem?_replicate] at hp
      split at hp
      · simp [Value.ownBlock] at hp
      · simp at hp
  refine ⟨Bl.alloc W _ _, ⟨k.trans ka, World.ownsRow_nil _ _ _ _, ⟨by simp [mst0], .inr ⟨fb, nf, _, by simp [mst0], lf, ff', by simp [mst0], by unfold maxLen; omega, by rw [size_madeCells]; omega, by rw [toList_madeCells_one]; simp [mst0]⟩⟩, fun i v hv => ?_, ⟨by simp [mst0], .inr ⟨rb, nr, _, by simp [mst0], lr, fr', by simp [mst0], by unfold maxLen; omega, by rw [size_madeCells]; omega, by rw [toList_madeCells_one]; simp [mst0]⟩⟩, World.ownsRow_nil _ _ _ _, fd', ⟨fun i p hp => ?_, fun i p hp => ?_, fun i j p hi hj => ?_⟩, by simp [mst0]⟩⟩
  · simp only [mst0] at hv ⊢
    rw [List.getElem?_replicate] at hv
    split at hv
    · rename_i hlt
      injection hv with hv
      subst hv
      exact ⟨[], by rw [List.getElem?_replicate, if_pos hlt], World.ownsRow_nil _ _ _ _⟩
    · cases hv
  · have := hB i p hp; omega
  · have := hB i p hp; omega
  · have := hB i p hi; have := hB j p hj; omega
end Go.Proofs.YtonnimbcekhbgaaGreatDoor
