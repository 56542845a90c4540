/- The finder: one instruction that takes a byte. -/
import Derived.Test.YtanpiomfnbiilaaDoorK
namespace Go.Proofs.YtanpiomfnbiilaaDoor
open Go.RowKit

theorem Tryd.infoThread : (Tryd.prog.info? 88).map (fun i => (i.size, i.bytes)) = some (22, 176) := by kernel_rfl
theorem Tryd.infoThread0 : (Tryd.prog.info? 88).map (fun i => (i.zero, i.size, i.bytes)) = some (some (.agg (Array.replicate 22 (.int .i64 0))), 22, 176) := by kernel_rfl

set_option maxRecDepth 100000 in
set_option maxHeartbeats 2000000 in
/-- No byte of the set stands there, or none at all. -/
theorem step_byte_end {w : World} {f p t g n c a pl : Nat} {text : ByteArray}
    (c0 : w.cell? ⟨f, 0, none⟩ = some (.pointer (some ⟨p, 0, none⟩))) (c1 : w.cell? ⟨f, 1, none⟩ = some (.string text)) (c2 : w.cell? ⟨f, 2, none⟩ = some (.int .i64 pl))
    (p0 : w.cell? ⟨p, 0, none⟩ = some (.slice (some ⟨g, 0, none⟩) n c)) (t0 : w.cell? ⟨t, 0, none⟩ = some (.int .i64 a)) (ha : a < n)
    (i0 : w.cell? ⟨g, a * 9, none⟩ = some (.int .i64 0)) (hlt : decide (pl < text.size) = false) :
    Calls Tryd.prog 38 #[.pointer (some ⟨f, 0, none⟩), .pointer (some ⟨t, 0, none⟩)] w fun e w' => e = .returned (.bool false) ∧ Kp [] w w' := by
  go_enter Tryd.func38, Tryd.ntmps38
  go_wp2
  go_quiet (fail)
  go_wp2
  go_quiet (fail)
  go_wp2
  go_ret
  exact ⟨rfl, (Kp.drewN _ _ _).trans (Kp.drewN _ _ _)⟩

/-- The worlds in which all that was there is as it was. -/
structure Ext (W : World) where
  val : World
  ok : Kp [] W val

/-- A region that draws its order, whose operations read and whose callees make memory at most: one walk serves every order. -/
theorem wp_region_ext {P : Program} {id : Nat} {Q : Exit → Act → World → Prop} {a : Act} {w : World} {l : List Oper} (hm : P.follows .mixedOrders = true) (hB : Region.lexB .any l.toArray = true)
    (h : wpQuiet P l.toArray (fun w' => ∃ x : Ext w, w' = x.val) (fun a' => ∀ w', (∃ x : Ext w, w' = x.val) → Q .normal a' w') l a) : (Code.region id l.toArray true).wp P Q a w :=
  wp_region_quiet (C := fun w' => ∃ x : Ext w, w' = x.val) hm hB ⟨⟨w.drew, Kp.drew _ _⟩, rfl⟩ (by simpa using h)

theorem Ext.cell {W : World} {a : Addr} {v : Value} (h : W.cell? a = some v) : ∀ x : Ext W, x.val.cell? a = some v := fun x => (x.ok.cell (World.block_lt_of_cell? _ _ h) (by simp)).trans h

theorem has_ext (m : Nat → Bool) (y : Nat) (hy : y < 256) {b : Bool} (hb : m y = b) {W : World} (x : Ext W) :
    Calls Tryd.prog 41 #[setV m, .int .u8 y] x.val fun e w'' => e = .returned (.bool b) ∧ ∃ z : Ext W, w'' = z.val := by
  subst hb
  exact (has_any m y hy x.val).mono fun e w'' ⟨he, k⟩ => ⟨he, ⟨w'', x.ok.trans k⟩, rfl⟩

set_option maxRecDepth 100000 in
set_option maxHeartbeats 2000000 in
theorem step_byte_miss {w : World} {f p t g n c a pl : Nat} {text : ByteArray} {m : Nat → Bool}
    (c0 : w.cell? ⟨f, 0, none⟩ = some (.pointer (some ⟨p, 0, none⟩))) (c1 : w.cell? ⟨f, 1, none⟩ = some (.string text)) (c2 : w.cell? ⟨f, 2, none⟩ = some (.int .i64 pl))
    (p0 : w.cell? ⟨p, 0, none⟩ = some (.slice (some ⟨g, 0, none⟩) n c)) (t0 : w.cell? ⟨t, 0, none⟩ = some (.int .i64 a)) (ha : a < n)
    (i0 : w.cell? ⟨g, a * 9, none⟩ = some (.int .i64 0)) (i5 : w.cell? ⟨g, a * 9 + 5, none⟩ = some (.int .u64 (wd m 0))) (i6 : w.cell? ⟨g, a * 9 + 5 + 1, none⟩ = some (.int .u64 (wd m 1)))
    (i7 : w.cell? ⟨g, a * 9 + 5 + 2, none⟩ = some (.int .u64 (wd m 2))) (i8 : w.cell? ⟨g, a * 9 + 5 + 3, none⟩ = some (.int .u64 (wd m 3)))
    (hlt : pl < text.size) (hm : m (text[pl]).toNat = false) :
    Calls Tryd.prog 38 #[.pointer (some ⟨f, 0, none⟩), .pointer (some ⟨t, 0, none⟩)] w fun e w' => e = .returned (.bool false) ∧ Kp [] w w' := by
  have HM := hid hm
  clear hm
  go_enter Tryd.func38, Tryd.ntmps38
  go_wp2
  go_quiet (fail)
  go_wp2
  generalize hw1 : w.drewN nq = w1
  have k1 : Kp [] w w1 := by rw [← hw1]; exact Kp.drewN _ _ _
  clear hw1
  have d1 := Ext.cell ((k1.cell (World.block_lt_of_cell? _ _ c1) (by simp)).trans c1)
  have d2 := Ext.cell ((k1.cell (World.block_lt_of_cell? _ _ c2) (by simp)).trans c2)
  have d5 := Ext.cell ((k1.cell (World.block_lt_of_cell? _ _ i5) (by simp)).trans i5)
  have d6 := Ext.cell ((k1.cell (World.block_lt_of_cell? _ _ i6) (by simp)).trans i6)
  have d7 := Ext.cell ((k1.cell (World.block_lt_of_cell? _ _ i7) (by simp)).trans i7)
  have d8 := Ext.cell ((k1.cell (World.block_lt_of_cell? _ _ i8) (by simp)).trans i8)
  clear c0 c1 c2 p0 t0 i0 i5 i6 i7 i8
  have hne : Nonempty (Ext w1) := ⟨⟨w1, Kp.refl _ _⟩⟩
  refine wp_region_ext (by kernel_rfl) (by kernel_rfl) ?_
  repeat (refine wpQuiet_step (fun K hK => ?_); go_simp; first | (refine hK _ ?_; clear hK K) | (apply Exists.intro; refine ⟨fun x => ?_, hK _ ?_⟩; exact has_ext m _ (UInt8.toNat_lt _) HM.out x; clear hK K))
  refine wpQuiet_nil ?_
  intro w' hw'
  obtain ⟨x, hx⟩ := hw'
  subst hx
  go_wp2
  go_ret
  exact ⟨rfl, k1.trans x.ok⟩
end Go.Proofs.YtanpiomfnbiilaaDoor
