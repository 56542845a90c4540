/- One text out of several: EQ EN. -/
import Derived.Shelf.Strconv.Clone
import Derived.Shelf.Strconv.Itoa3
import Derived.Shelf.Strings.Search2
import Derived.Test.YtonnimbcekhbgaaGreatDoorA
import Derived.Test.YtonnimbcekhbgaaGreatDoorEM

/- The library's small functions at this program: the layings' plain text, and what is used of them. -/
namespace Go.Proofs.YtonnimbcekhbgaaGreatDoor
open Go.Shelf Go.RowKit
def Tryz.laysM316_ren : Go.Shelf.Ren := ⟨fun | 316 => 66 | n => n, fun | 9 => 9 | 3 => 3 | 4 => 4 | 37 => 34 | 0 => 0 | 127 => 127 | 5 => 5 | n => n, fun | n => n⟩
theorem Tryz.laysM316 : Go.Proofs.LaysM.n316 Tryz.prog Tryz.laysM316_ren := {
  mixed := by kernel_rfl
  f316 := Tryz.func66.trans (congrArg some (by kernel_rfl))
  t0 := Tryz.underlying0
  a0 := Tryz.isAgg0
  z0 := Tryz.sizeOf0
  v0 := Tryz.zeroValue0
  t3 := Tryz.underlying3
  a3 := Tryz.isAgg3
  z3 := Tryz.sizeOf3
  v3 := Tryz.zeroValue3
  t4 := Tryz.underlying4
  a4 := Tryz.isAgg4
  z4 := Tryz.sizeOf4
  v4 := Tryz.zeroValue4
  t9 := Tryz.underlying9
  a9 := Tryz.isAgg9
  z9 := Tryz.sizeOf9
  v9 := Tryz.zeroValue9
  t37 := Tryz.underlying34
  a37 := Tryz.isAgg34
  z37 := Tryz.sizeOf34
  v37 := Tryz.zeroValue34
  t127 := Tryz.underlying127
  a127 := Tryz.isAgg127
  z127 := Tryz.sizeOf127
  v127 := Tryz.zeroValue127
  t5 := Tryz.underlying5
  a5 := Tryz.isAgg5
  z5 := Tryz.sizeOf5
  v5 := Tryz.zeroValue5
  i0 := by kernel_rfl
  i3 := by kernel_rfl
  i4 := by kernel_rfl
  i5 := by kernel_rfl
  i9 := by kernel_rfl
  i37 := by kernel_rfl
  i127 := by kernel_rfl }
def Tryz.lays171_ren : Go.Shelf.Ren := ⟨fun | 171 => 96 | 243 => 125 | 246 => 140 | 283 => 150 | 284 => 151 | 285 => 152 | 286 => 153 | 129 => 160 | 317 => 159 | 318 => 161 | 319 => 162 | 320 => 163 | 337 => 167 | 338 => 168 | n => n, fun | 3 => 3 | 9 => 9 | 2 => 2 | 4 => 4 | 171 => 191 | 0 => 0 | 53 => 181 | 37 => 34 | 5 => 5 | 173 => 194 | 212 => 203 | 51 => 199 | 20 => 20 | 213 => 204 | 46 => 145 | 232 => 214 | 233 => 215 | n => n, fun | 17 => 1 | 18 => 2 | 19 => 3 | n => n⟩
theorem Tryz.lays171 : Go.Proofs.Lays.n171 Tryz.prog Tryz.lays171_ren := {
  mixed := by kernel_rfl
  f129 := Tryz.func160.trans (congrArg some (by kernel_rfl))
  f171 := Tryz.func96.trans (congrArg some (by kernel_rfl))
  f243 := Tryz.func125.trans (congrArg some (by kernel_rfl))
  f246 := Tryz.func140.trans (congrArg some (by kernel_rfl))
  f283 := Tryz.func150.trans (congrArg some (by kernel_rfl))
  f284 := Tryz.func151.trans (congrArg some (by kernel_rfl))
  f285 := Tryz.func152.trans (congrArg some (by kernel_rfl))
  f286 := Tryz.func153.trans (congrArg some (by kernel_rfl))
  f317 := Tryz.func159.trans (congrArg some (by kernel_rfl))
  f318 := Tryz.func161.trans (congrArg some (by kernel_rfl))
  f319 := Tryz.func162.trans (congrArg some (by kernel_rfl))
  f320 := Tryz.func163.trans (congrArg some (by kernel_rfl))
  f337 := Tryz.func167.trans (congrArg some (by kernel_rfl))
  f338 := Tryz.func168.trans (congrArg some (by kernel_rfl))
  t0 := Tryz.underlying0
  a0 := Tryz.isAgg0
  z0 := Tryz.sizeOf0
  v0 := Tryz.zeroValue0
  t2 := Tryz.underlying2
  a2 := Tryz.isAgg2
  z2 := Tryz.sizeOf2
  v2 := Tryz.zeroValue2
  t3 := Tryz.underlying3
  a3 := Tryz.isAgg3
  z3 := Tryz.sizeOf3
  v3 := Tryz.zeroValue3
  t4 := Tryz.underlying4
  a4 := Tryz.isAgg4
  z4 := Tryz.sizeOf4
  v4 := Tryz.zeroValue4
  t5 := Tryz.underlying5
  a5 := Tryz.isAgg5
  z5 := Tryz.sizeOf5
  v5 := Tryz.zeroValue5
  t9 := Tryz.underlying9
  a9 := Tryz.isAgg9
  z9 := Tryz.sizeOf9
  v9 := Tryz.zeroValue9
  t20 := Tryz.underlying20
  a20 := Tryz.isAgg20
  z20 := Tryz.sizeOf20
  v20 := Tryz.zeroValue20
  t37 := Tryz.underlying34
  a37 := Tryz.isAgg34
  z37 := Tryz.sizeOf34
  v37 := Tryz.zeroValue34
  t46 := Tryz.underlying145
  a46 := Tryz.isAgg145
  z46 := Tryz.sizeOf145
  v46 := Tryz.zeroValue145
  t51 := Tryz.underlying199
  a51 := Tryz.isAgg199
  z51 := Tryz.sizeOf199
  v51 := Tryz.zeroValue199
  t53 := Tryz.underlying181
  a53 := Tryz.isAgg181
  z53 := Tryz.sizeOf181
  v53 := Tryz.zeroValue181
  t171 := Tryz.underlying191
  a171 := Tryz.isAgg191
  z171 := Tryz.sizeOf191
  v171 := Tryz.zeroValue191
  t173 := Tryz.underlying194
  a173 := Tryz.isAgg194
  z173 := Tryz.sizeOf194
  v173 := Tryz.zeroValue194
  t212 := Tryz.underlying203
  a212 := Tryz.isAgg203
  z212 := Tryz.sizeOf203
  v212 := Tryz.zeroValue203
  t213 := Tryz.underlying204
  a213 := Tryz.isAgg204
  z213 := Tryz.sizeOf204
  t232 := Tryz.underlying214
  a232 := Tryz.isAgg214
  z232 := Tryz.sizeOf214
  v232 := Tryz.zeroValue214
  t233 := Tryz.underlying215
  a233 := Tryz.isAgg215
  z233 := Tryz.sizeOf215
  v233 := Tryz.zeroValue215
  g17 := by kernel_rfl
  g18 := by kernel_rfl
  g19 := by kernel_rfl }
def Tryz.lays219_ren : Go.Shelf.Ren := ⟨fun | 219 => 139 | 217 => 142 | 225 => 147 | 224 => 148 | 267 => 149 | 266 => 155 | 314 => 158 | n => n, fun | 9 => 9 | 3 => 3 | 4 => 4 | 5 => 5 | 46 => 145 | 146 => 200 | 51 => 199 | n => n, fun | 1 => 0 | n => n⟩
theorem Tryz.lays219 : Go.Proofs.Lays.n219 Tryz.prog Tryz.lays219_ren := {
  mixed := by kernel_rfl
  f217 := Tryz.func142.trans (congrArg some (by kernel_rfl))
  f219 := Tryz.func139.trans (congrArg some (by kernel_rfl))
  f224 := Tryz.func148.trans (congrArg some (by kernel_rfl))
  f225 := Tryz.func147.trans (congrArg some (by kernel_rfl))
  f266 := Tryz.func155.trans (congrArg some (by kernel_rfl))
  f267 := Tryz.func149.trans (congrArg some (by kernel_rfl))
  f314 := Tryz.func158.trans (congrArg some (by kernel_rfl))
  t3 := Tryz.underlying3
  a3 := Tryz.isAgg3
  z3 := Tryz.sizeOf3
  v3 := Tryz.zeroValue3
  t4 := Tryz.underlying4
  a4 := Tryz.isAgg4
  z4 := Tryz.sizeOf4
  v4 := Tryz.zeroValue4
  t5 := Tryz.underlying5
  a5 := Tryz.isAgg5
  z5 := Tryz.sizeOf5
  v5 := Tryz.zeroValue5
  t9 := Tryz.underlying9
  a9 := Tryz.isAgg9
  z9 := Tryz.sizeOf9
  v9 := Tryz.zeroValue9
  t46 := Tryz.underlying145
  a46 := Tryz.isAgg145
  z46 := Tryz.sizeOf145
  v46 := Tryz.zeroValue145
  t51 := Tryz.underlying199
  a51 := Tryz.isAgg199
  z51 := Tryz.sizeOf199
  v51 := Tryz.zeroValue199
  t146 := Tryz.underlying200
  a146 := Tryz.isAgg200
  z146 := Tryz.sizeOf200
  v146 := Tryz.zeroValue200
  g1 := by kernel_rfl }

theorem clone0 (s : ByteArray) (w : World) (h : s.size ≤ 281474976710656) :
    Calls Tryz.prog 66 #[.string s] w fun e w' => e = .returned (.string s) ∧ Kp [] w w' :=
  (Any.stringslite_Clone Tryz.laysM316 s w h).mono fun _ _ ⟨he, hb⟩ => ⟨he, Kp.of_below hb⟩
theorem clone_k (s : ByteArray) (w : World) (h : s.size ≤ 281474976710656) :
    Calls Tryz.prog 33 #[.string s] w fun e w' => e = .returned (.string s) ∧ Kp [] w w' := by
  go_enter Tryz.func33, Tryz.ntmps33
  go_wp2_with fail
  refine (clone0 s w h).mono ?_
  rintro e w1 ⟨rfl, k1⟩
  go_wp2_with fail
  go_ret
  exact ⟨rfl, k1⟩
theorem itoa_k (i : Nat) (hi : i < 100) (w : World) : Calls Tryz.prog 96 #[.int .i64 i] w fun e w' => e = .returned (.string ⟨(Lib.decDigits i).toArray⟩) ∧ w' = w := Any.strconv_Itoa_small Tryz.lays171 i hi w
theorem index_k (s : ByteArray) (c : UInt8) (w : World) :
    Calls Tryz.prog 139 #[.string s, .string ⟨#[c]⟩] w fun e w' => e = .returned (.int .i64 (Lib.indexByte s.data.toList c)) ∧ w' = w := Any.stringslite_Index_one Tryz.lays219 s c w
end Go.Proofs.YtonnimbcekhbgaaGreatDoor

/- A script is read. -/
namespace Go.Proofs.YtonnimbcekhbgaaGreatDoor
open Go.RowKit

/-- Nothing is read yet. -/
structure Fresh (src : ByteArray) (σ : Sst) : Prop where
  quiet : σ.quiet = qtB src
  cs : σ.cs = []
  ns : σ.ns = []
  ranges : σ.ranges = 0
  bs : σ.bs = []
  gs : σ.gs = []
  ls : σ.ls = []
  nm : σ.nm = []

/-- What has come of the reading. -/
def ReadS (w w' : World) (p : Value) (src : ByteArray) (T : Sst → Sst → Prop) : Prop := ∃ b σ σ', p = .pointer (some ⟨b, 3, none⟩) ∧ Fresh src σ ∧ T σ σ' ∧ Sr w w' b src src.size σ'

abbrev rdV (src : ByteArray) (ob lb nb : Nat) : List Value := [.string src, .int .i64 0, .int .i64 4, .bool false, .slice none 0 0, .slice none 0 0, .int .i64 0, .map (some ob), .slice none 0 0, .map (some lb), .map (some nb), .slice none 0 0]
theorem rdV_one (src : ByteArray) (ob lb nb : Nat) : ∀ u ∈ rdV src ob lb nb, u.oneCell' = true := fun u hu => by
  simp only [rdV, List.mem_cons, List.not_mem_nil, or_false] at hu
  rcases hu with h | h | h | h | h | h | h | h | h | h | h | h <;> subst h <;> rfl
abbrev rdZ : List Value := [.string ⟨#[]⟩, .int .i64 0, .int .i64 0, .bool false, .slice none 0 0, .slice none 0 0, .int .i64 0, .map none, .slice none 0 0, .map none, .map none, .slice none 0 0]
theorem Tryz.szReader : (Tryz.prog.info? 83).map (·.size) = some 12 := by kernel_rfl
def st0 (ob lb nb : Nat) : Sst := ⟨false, .slice none 0 0, [], .slice none 0 0, [], 0, ob, lb, nb, .slice none 0 0, [], .slice none 0 0, [], [], [], []⟩

theorem sr_start {w w1 w2 w5 : World} {src : ByteArray} (hsz : src.size ≤ 2000) (k1 : Kp [] w w1) (k2 : Kp [] w1 w2) (ht : w2.heap[w1.heap.size]? = some (tabO opsL)) (B : Bl w5 ((w2.alloc (.map #[] 0)).alloc (.map #[] 0)).heap.size (rdV src w1.heap.size w2.heap.size (w2.heap.size + 1))) (k5 : Kp [] ((w2.alloc (.map #[] 0)).alloc (.map #[] 0)) w5) :
    Sr w w5 ((w2.alloc (.map #[] 0)).alloc (.map #[] 0)).heap.size src 0 (st0 w1.heap.size w2.heap.size (w2.heap.size + 1)) := by
  obtain ⟨b, hb⟩ : ∃ b, b = ((w2.alloc (.map #[] 0)).alloc (.map #[] 0)).heap.size := ⟨_, rfl⟩
  have hb2 : b = w2.heap.size + 2 := by rw [hb]; simp
  have klt := lt_blk ht
  have s1 := k1.size
  have ka : Kp [] w2 w5 := ((Kp.alloc [] _ _).trans (Kp.alloc _ _ _)).trans k5
  have hz1 : (w2.alloc (.map #[] 0)).heap.size = w2.heap.size + 1 := by simp
  have hz2 : ((w2.alloc (.map #[] 0)).alloc (.map #[] 0)).heap.size = w2.heap.size + 2 := by simp
  have m2 : w5.heap[w2.heap.size]? = some (.map #[] 0) :=
    (k5.block _ (by omega) (by simp)).trans (((Kp.alloc [] (w2.alloc (.map #[] 0)) _).block _ (by omega) (by simp)).trans (heap_alloc_new w2 _))
  have m3 : w5.heap[w2.heap.size + 1]? = some (.map #[] 0) := by
    refine (k5.block _ (by omega) (by simp)).trans ?_
    rw [← hz1]
    exact heap_alloc_new (w2.alloc (.map #[] 0)) _
  rw [← hb] at B ⊢
  have blt := B.lt
  have hB : ∀ i p, srB b (st0 w1.heap.size w2.heap.size (w2.heap.size + 1)) i = some p → (i = 0 ∧ p = b) ∨ (i = 1 ∧ p = w1.heap.size) ∨ (i = 2 ∧ p = w2.heap.size) ∨ (i = 3 ∧ p = w2.heap.size + 1) := fun i p hp => by
    rcases i with _ | _ | _ | _ | _ | _ | _ | _ | i <;> simp [srB, st0, Value.ownBlock] at hp <;> omega
  refine ⟨⟨blt, Nat.zero_le _, hsz, B.at_ 0 _ rfl, B.at_ 1 _ rfl, B.free⟩, ⟨B.at_ 2 _ rfl, B.at_ 3 _ rfl, B.at_ 4 _ rfl, B.at_ 5 _ rfl, B.at_ 6 _ rfl, B.at_ 7 _ rfl, B.at_ 8 _ rfl, B.at_ 9 _ rfl, B.at_ 10 _ rfl, B.at_ 11 _ rfl⟩, ⟨k1.trans (k2.trans ka), World.ownsRow_nil _ _ _ _, World.ownsRow_nil _ _ _ _, World.ownsRow_nil _ _ _ _, World.ownsRow_nil _ _ _ _, (ka.block _ klt (by simp)).trans ht, m2, m3, (fun c hc => by cases hc), ⟨fun i p hp => ?_, fun i p hp => ?_, fun i j p hi hj => ?_⟩, (fun f hf => by cases hf)⟩⟩
  · have := hB i p hp; omega
  · have := hB i p hp; omega
  · have := hB i p hi; have := hB j p hj; omega

set_option maxRecDepth 100000 in
set_option maxHeartbeats 4000000 in
theorem read_v {w : World} {src : ByteArray} {m : Nat} {T : Sst → Sst → Prop} (hsz : src.size ≤ 2000) (hc : ∀ b, Cmds w b src m 0 T) (hm : m ≤ 2000) (hT : ∀ σ σ', Fresh src σ → T σ σ' → σ'.bs = [] ∧ σ'.gs = []) :
    Calls Tryz.prog 26 #[.string src] w fun r w' => ∃ p, r = .returned p ∧ ReadS w w' p src T := by
  have HC := hid hc
  have HT := hid hT
  clear hc hT
  have g1 : ¬ 2000 < src.size := by omega
  go_enter Tryz.func26, Tryz.ntmps26
  go_wp2_with fail
  refine (clone_k src w (by omega)).mono ?_
  rintro r w1 ⟨rfl, k1⟩
  go_wp2_with fail
  refine (operands_any w1).mono ?_
  rintro r w2 ⟨rfl, ht, k2⟩
  have hz2 : ((w2.alloc (.map #[] 0)).alloc (.map #[] 0)).heap.size = w2.heap.size + 1 + 1 := by simp
  have s5 := sr_start hsz k1 k2 ht (Bl.alloc ((w2.alloc (.map #[] 0)).alloc (.map #[] 0)) (rdV src w1.heap.size w2.heap.size (w2.heap.size + 1)) 83) (Kp.alloc _ _ _)
  rw [hz2] at s5
  have S5 := hid s5
  clear s5
  go_wp2_with (refine wpList_makeMap rfl 80 rfl ?_)
  refine (whole_v S5.out (HC.out _) (by show 0 + m ≤ 2000; omega) (by show 0 + m ≤ 2000; omega) ⟨0, ⟨Nat.le_refl _, Nat.le_refl _, Nat.le_refl _⟩, by omega⟩ (fun σ' h => HT.out _ σ' ⟨rfl, rfl, rfl, rfl, rfl, rfl, rfl, rfl⟩ h)).mono ?_
  rintro r w6 ⟨rfl, σ', hT', s6⟩
  go_wp2_with fail
  go_ret
  exact ⟨_, rfl, _, _, σ', rfl, ⟨rfl, rfl, rfl, rfl, rfl, rfl, rfl, rfl⟩, hT', s6⟩
end Go.Proofs.YtonnimbcekhbgaaGreatDoor
