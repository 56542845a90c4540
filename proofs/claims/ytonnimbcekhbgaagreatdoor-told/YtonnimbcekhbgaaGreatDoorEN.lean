/- A script is read. -/
import Derived.Test.YtonnimbcekhbgaaGreatDoorEM
import Derived.Test.YtonnimbcekhbgaaGreatDoorEQ
namespace Go.Proofs.YtonnimbcekhbgaaGreatDoor
open Go.RowKit

/-- Nothing is read yet. -/
structure Fresh (src : ByteArray) (σ : Sst) : Prop where
  quiet : σ.quiet = qtB src
  cs : σ.cs = []
  ns : σ.ns = []
  ranges : σ.ranges = 0
  bs : σ.bs = []
  gs : σ.gs = []
  ls : σ.ls = []
  nm : σ.nm = []

/-- What has come of the reading. -/
def ReadS (w w' : World) (p : Value) (src : ByteArray) (T : Sst → Sst → Prop) : Prop := ∃ b σ σ', p = .pointer (some ⟨b, 3, none⟩) ∧ Fresh src σ ∧ T σ σ' ∧ Sr w w' b src src.size σ'

abbrev rdV (src : ByteArray) (ob lb nb : Nat) : List Value := [.string src, .int .i64 0, .int .i64 4, .bool false, .slice none 0 0, .slice none 0 0, .int .i64 0, .map (some ob), .slice none 0 0, .map (some lb), .map (some nb), .slice none 0 0]
theorem rdV_one (src : ByteArray) (ob lb nb : Nat) : ∀ u ∈ rdV src ob lb nb, u.oneCell' = true := fun u hu => by
  simp only [rdV, List.mem_cons, List.not_mem_nil, or_false] at hu
  rcases hu with h | h | h | h | h | h | h | h | h | h | h | h <;> subst h <;> rfl
abbrev rdZ : List Value := [.string ⟨#[]⟩, .int .i64 0, .int .i64 0, .bool false, .slice none 0 0, .slice none 0 0, .int .i64 0, .map none, .slice none 0 0, .map none, .map none, .slice none 0 0]
theorem Tryz.szReader : (Tryz.prog.info? 83).map (·.size) = some 12 := by kernel_rfl
def st0 (ob lb nb : Nat) : Sst := ⟨false, .slice none 0 0, [], .slice none 0 0, [], 0, ob, lb, nb, .slice none 0 0, [], .slice none 0 0, [], [], [], []⟩

theorem sr_start {w w1 w2 w5 : World} {src : ByteArray} (hsz : src.size ≤ 2000) (k1 : Kp [] w w1) (k2 : Kp [] w1 w2) (ht : w2.heap[w1.heap.size]? = some (tabO opsL)) (B : Bl w5 ((w2.alloc (.map #[] 0)).alloc (.map #[] 0)).heap.size (rdV src w1.heap.size w2.heap.size (w2.heap.size + 1))) (k5 : Kp [] ((w2.alloc (.map #[] 0)).alloc (.map #[] 0)) w5) :
    Sr w w5 ((w2.alloc (.map #[] 0)).alloc (.map #[] 0)).heap.size src 0 (st0 w1.heap.size w2.heap.size (w2.heap.size + 1)) := by
  obtain ⟨b, hb⟩ : ∃ b, b = ((w2.alloc (.map #[] 0)).alloc (.map #[] 0)).heap.size := ⟨_, rfl⟩
  have hb2 : b = w2.heap.size + 2 := by rw [hb]; simp
  have klt := lt_blk ht
  have s1 := k1.size
  have ka : Kp [] w2 w5 := ((Kp.alloc [] _ _).trans (Kp.alloc _ _ _)).trans k5
  have hz1 : (w2.alloc (.map #[] 0)).heap.size = w2.heap.size + 1 := by simp
  have hz2 : ((w2.alloc (.map #[] 0)).alloc (.map #[] 0)).heap.size = w2.heap.size + 2 := by simp
  have m2 : w5.heap[w2.heap.size]? = some (.map #[] 0) :=
    (k5.block _ (by omega) (by simp)).trans (((Kp.alloc [] (w2.alloc (.map #[] 0)) _).block _ (by omega) (by simp)).trans (heap_alloc_new w2 _))
  have m3 : w5.heap[w2.heap.size + 1]? = some (.map #[] 0) := by
    refine (k5.block _ (by omega) (by simp)).trans ?_
    rw [← hz1]
    exact heap_alloc_new (w2.alloc (.map #[] 0)) _
  rw [← hb] at B ⊢
  have blt := B.lt
  have hB : ∀ i p, srB b (st0 w1.heap.size w2.heap.size (w2.heap.size + 1)) i = some p → (i = 0 ∧ p = b) ∨ (i = 1 ∧ p = w1.heap.size) ∨ (i = 2 ∧ p = w2.heap.size) ∨ (i = 3 ∧ p = w2.heap.size + 1) := fun i p hp => by
    rcases i with _ | _ | _ | _ | _ | _ | _ | _ | i <;> simp [srB, st0, Value.ownBlock] at hp <;> omega
  refine ⟨⟨blt, Nat.zero_le _, hsz, B.at_ 0 _ rfl, B.at_ 1 _ rfl, B.free⟩, ⟨B.at_ 2 _ rfl, B.at_ 3 _ rfl, B.at_ 4 _ rfl, B.at_ 5 _ rfl, B.at_ 6 _ rfl, B.at_ 7 _ rfl, B.at_ 8 _ rfl, B.at_ 9 _ rfl, B.at_ 10 _ rfl, B.at_ 11 _ rfl⟩, ⟨k1.trans (k2.trans ka), World.ownsRow_nil _ _ _ _, World.ownsRow_nil _ _ _ _, World.ownsRow_nil _ _ _ _, World.ownsRow_nil _ _ _ _, (ka.block _ klt (by simp)).trans ht, m2, m3, (fun c hc => by cases hc), ⟨fun i p hp => ?_, fun i p hp => ?_, fun i j p hi hj => ?_⟩, (fun f hf => by cases hf)⟩⟩
  · have := hB i p hp; omega
  · have := hB i p hp; omega
  · have := hB i p hi; have := hB j p hj; omega

set_option maxRecDepth 100000 in
set_option maxHeartbeats 4000000 in
theorem read_v {w : World} {src : ByteArray} {m : Nat} {T : Sst → Sst → Prop} (hsz : src.size ≤ 2000) (hc : ∀ b, Cmds w b src m 0 T) (hm : m ≤ 2000) (hT : ∀ σ σ', Fresh src σ → T σ σ' → σ'.bs = [] ∧ σ'.gs = []) :
    Calls Tryz.prog 26 #[.string src] w fun r w' => ∃ p, r = .returned p ∧ ReadS w w' p src T := by
  have HC := hid hc
  have HT := hid hT
  clear hc hT
  have g1 : ¬ 2000 < src.size := by omega
  go_enter Tryz.func26, Tryz.ntmps26
  go_wp2_with fail
  refine (clone_k src w (by omega)).mono ?_
  rintro r w1 ⟨rfl, k1⟩
  go_wp2_with fail
  refine (operands_any w1).mono ?_
  rintro r w2 ⟨rfl, ht, k2⟩
  have hz2 : ((w2.alloc (.map #[] 0)).alloc (.map #[] 0)).heap.size = w2.heap.size + 1 + 1 := by simp
  have s5 := sr_start hsz k1 k2 ht (Bl.alloc ((w2.alloc (.map #[] 0)).alloc (.map #[] 0)) (rdV src w1.heap.size w2.heap.size (w2.heap.size + 1)) 83) (Kp.alloc _ _ _)
  rw [hz2] at s5
  have S5 := hid s5
  clear s5
  go_wp2_with (refine wpList_makeMap rfl 80 rfl ?_)
  refine (whole_v S5.out (HC.out _) (by show 0 + m ≤ 2000; omega) (by show 0 + m ≤ 2000; omega) ⟨0, ⟨Nat.le_refl _, Nat.le_refl _, Nat.le_refl _⟩, by omega⟩ (fun σ' h => HT.out _ σ' ⟨rfl, rfl, rfl, rfl, rfl, rfl, rfl, rfl⟩ h)).mono ?_
  rintro r w6 ⟨rfl, σ', hT', s6⟩
  go_wp2_with fail
  go_ret
  exact ⟨_, rfl, _, _, σ', rfl, ⟨rfl, rfl, rfl, rfl, rfl, rfl, rfl, rfl⟩, hT', s6⟩
end Go.Proofs.YtonnimbcekhbgaaGreatDoor
