/- What the claim needs of: KBToKF HG BToC D EToF. -/
import Derived.Test.YtonnimbcekhbgaaGreatDoorX20
import Derived.Test.YtonnimbcekhbgaaGreatDoorX19
import Derived.Test.YtonnimbcekhbgaaGreatDoorRows
import Derived.Test.YtonnimbcekhbgaaGreatDoorX00
import Derived.WalkLawsBesides
import Derived.BigQuiet
import Derived.Deep.RegionWith
import Derived.Lib.Bytealg

/- KBToKF. -/
namespace Go.Proofs.YtonnimbcekhbgaaGreatDoor
open Go.RowKit

section
variable {w0 w w' : World} {mb sb db lo hi : Nat} {s s' : Mst} {σ : Sst}

end
end Go.Proofs.YtonnimbcekhbgaaGreatDoor

/- The machine: a command with two addresses. -/
namespace Go.Proofs.YtonnimbcekhbgaaGreatDoor
open Go.RowKit

section
variable {w0 w w' w2 : World} {mb sb db lo hi : Nat} {s s' : Mst} {σ : Sst}

/-- A command with two addresses. -/
structure AtTwo (σ : Sst) (c : List Value) (x : Nat) (nt : Bool) (i : Nat) (A B : Adr) : Prop where
  c3 : c[3]? = some (.int .u8 x)
  c2 : c[2]? = some (.bool nt)
  c1 : c[1]? = some (.int .i64 i)
  c0 : ∃ (p ca : Nat) (cells : Array Value) (va vb : List Value), c[0]? = some (.slice (some ⟨p, 0, none⟩) 2 ca) ∧ (p, Obj.cells cells 120 (0, 0)) ∈ σ.fs ∧ AdrV σ.fs A va ∧ AdrV σ.fs B vb ∧ (∀ (j : Nat) (u : Value), va[j]? = some u → cells[j]? = some u) ∧ ∀ (j : Nat) (u : Value), vb[j]? = some u → cells[4 + j]? = some u
theorem AtTwo.of {c : List Value} {x i : Nat} {nt : Bool} {A B : Adr} {v : Value} (h3 : c[3]? = some (.int .u8 x)) (h2 : c[2]? = some (.bool nt)) (h1 : c[1]? = some (.int .i64 i)) (h0 : c[0]? = some v) (hv : AdrsV σ.fs v [A, B]) : AtTwo σ c x nt i A B := by
  refine ⟨h3, h2, h1, ?_⟩
  rcases hv with ⟨q, _⟩ | ⟨p, ca, cells, rfl, hm, hc⟩
  · cases q
  · obtain ⟨va, ha, ca'⟩ := hc 0 _ rfl
    obtain ⟨vb, hb, cb'⟩ := hc 1 _ rfl
    exact ⟨p, ca, cells, va, vb, h0, hm, ha, hb, fun j u hu => by have := ca' j u hu; simpa using this, cb'⟩

/-- An address lies there. -/
def AdrW (w : World) : Adr → List Value → Prop
  | .num x, v => v = adrV 0 x
  | .last, v => v = adrV 1 0
  | .pat Q txt, v => ∃ pb, v = adrP pb txt ∧ Q pb w
theorem AdrV.here {fs : List (Nat × Obj)} {A : Adr} {v : List Value} (h : AdrV fs A v) (hw : ∀ f ∈ fs, w.heap[f.1]? = some f.2) : AdrW w A v := by
  cases A with
  | num x => exact h
  | last => exact h
  | pat Q txt =>
    obtain ⟨pb, g, o1, o2, e, h1, h2, hb⟩ := h
    exact ⟨pb, e, hb w (hw _ h1) (hw _ h2)⟩
end
end Go.Proofs.YtonnimbcekhbgaaGreatDoor

/- What the law's scripts do with its lines: kq k, and a last line without its newline. -/
namespace Go.Proofs.YtonnimbcekhbgaaGreatDoor
open Go.RowKit

section
variable {σ : Sst} {ls : List (List UInt8)}

theorem saw_at {s : ByteArray} {k : Nat} {x : Nat} (h : saw s k x = true) : ∃ hk : k < s.size, (s[k]).toNat = x := by
  unfold saw at h
  split at h
  · rename_i hk
    refine ⟨hk, ?_⟩
    simp at h
    omega
  · cases h

end
end Go.Proofs.YtonnimbcekhbgaaGreatDoor

/- What a command with two addresses does with lines; scripts of two numbers. -/
namespace Go.Proofs.YtonnimbcekhbgaaGreatDoor
open Go.RowKit

section
variable {w0 w w' : World} {mb sb db lo hi : Nat} {s s' : Mst} {σ : Sst} {ls : List (List UInt8)}

abbrev noR : Sst → List Value → Sst → List Value → Prop := fun σ cv σ' cv' => σ' = σ ∧ cv' = cv
/-- No address that asks for the last line. -/
def Adr.kd : Adr → Nat
  | .num _ => 0
  | .last => 1
  | .pat _ _ => 2
theorem AdrV.kind {fs : List (Nat × Obj)} {A : Adr} {v : List Value} (h : AdrV fs A v) : v[0]? = some (.int .i64 A.kd) := by
  cases A with
  | num x => rw [show v = _ from h]; rfl
  | last => rw [show v = _ from h]; rfl
  | pat Q txt => obtain ⟨pb, g, o1, o2, e, _⟩ := h; rw [e]; rfl
end
end Go.Proofs.YtonnimbcekhbgaaGreatDoor

/- HG. -/
namespace Go.Proofs.YtonnimbcekhbgaaGreatDoor
open Go.RowKit

section
variable {w w' : World} {sb lo hi : Nat} {σ : Sst}

set_option maxRecDepth 100000 in
set_option maxHeartbeats 1000000 in
theorem aheadC_last {g o p c : Nat} (h0 : w.cell? ⟨g, o, none⟩ = some (.slice (some ⟨p, 0, none⟩) 1 c)) (q0 : w.cell? ⟨p, 0, none⟩ = some (.int .i64 1)) :
    Calls Tryz.prog 59 #[.pointer (some ⟨g, o, none⟩)] w fun r w' => r = .returned (.bool true) ∧ w' = w := by
  go_enter Tryz.func59, Tryz.ntmps59
  go_wp2_with fail
  refine wp_loop_rounds 1 ?_
  rw [rounds_succ]
  go_wp2_with fail
  go_ret
  exact ⟨rfl, rfl⟩

set_option maxRecDepth 100000 in
set_option maxHeartbeats 1000000 in
theorem ahead_at {i : Nat} (hs : Scr lo hi w sb 0 σ) (hl : σ.cs.length ≤ 2000) (hi' : i < σ.cs.length) (hc : ∀ j g cap, j < i → σ.vc = .slice (some ⟨g, 0, none⟩) σ.cs.length cap → Calls Tryz.prog 59 #[.pointer (some ⟨g, j * 23, none⟩)] w fun r w' => r = .returned (.bool false) ∧ w' = w)
    (ht : ∀ g cap, σ.vc = .slice (some ⟨g, 0, none⟩) σ.cs.length cap → Calls Tryz.prog 59 #[.pointer (some ⟨g, i * 23, none⟩)] w fun r w' => r = .returned (.bool true) ∧ w' = w) :
    Calls Tryz.prog 28 #[.pointer (some ⟨sb, 0, none⟩)] w fun r w' => r = .returned (.bool true) ∧ w' = w := by
  obtain ⟨A, c, e, hA, hA2⟩ := own_form hs.o4
  obtain ⟨g, rfl⟩ : ∃ g, A = some ⟨g, 0, none⟩ := by
    cases hA' : A with
    | none => have := hA hA'; omega
    | some ad =>
      obtain ⟨g, hg⟩ := hA2 ad hA'
      exact ⟨g, by rw [hg]⟩
  have c1 := hs.c1
  rw [e] at c1
  have HC := hid hc
  have HT := hid (ht g c e)
  have HE := hid e
  clear hc ht e hA hA2
  obtain ⟨n, hn⟩ : ∃ n, n = σ.cs.length := ⟨_, rfl⟩
  rw [← hn] at c1 hl hi'
  have HN := hid hn
  clear hn
  go_enter Tryz.func28, Tryz.ntmps28
  go_wp2_with fail
  go_loopw [9] (fun v wr => ∃ k : Nat, k ≤ i ∧ v = .int .i64 k ∧ wr = w) (fun v _ => 3000 - (intOf v).toNat)
  case atStart => exact ⟨0, by omega, rfl, rfl⟩
  case round =>
    obtain ⟨k, hk, rfl, rfl⟩ := hrel
    have hkl : k < n := by omega
    by_cases hkn : k < i
    · have HNA := hid (HC.out k g c hkn HE.out)
      obtain ⟨k1, hk1⟩ : ∃ k1 : Nat, k1 = k + 1 := ⟨_, rfl⟩
      have wr := wrap_i64_succ k k1 hk1 (by omega)
      have HK1 := hid hk1
      clear hk1
      go_wp2_with fail
      refine HNA.out.mono ?_
      rintro r w1 ⟨rfl, rfl⟩
      go_wp2_with fail
      go_round
      case rel => exact ⟨k1, by have := HK1.out; omega, by trivial, by trivial⟩
      case measure => have := HK1.out; simp [intOf]; omega
    · have hkk : k = i := by omega
      subst hkk
      go_wp2_with fail
      refine HT.out.mono ?_
      rintro r w1 ⟨rfl, rfl⟩
      go_wp2_with fail
      go_ret
      exact ⟨rfl, rfl⟩

/-- Its i-th command asks for the last line, and those ahead of it don't. -/
theorem knows_last {i x : Nat} {nt : Bool} {c : List Value} (hl : σ.cs.length ≤ 2000) (hc : σ.cs[i]? = some c) (hA : AtOne σ c x nt .last) (h : ∀ (j : Nat) (d : List Value), j < i → σ.cs[j]? = some d → ∃ y : Nat, y ≠ 110 ∧ y ≠ 78 ∧ (d[3]? = some (.int .u8 y) ∧ ((∃ A ca, d[0]? = some (.slice A 0 ca)) ∨ ∃ nt n, AtOne σ d y nt (.num n)))) : Knows σ true := by
  intro lo hi wx sb hs
  have hi' : i < σ.cs.length := (List.getElem?_eq_some_iff.1 hc).1
  refine ahead_at hs hl hi' (fun j g cap hj hv => ?_) (fun g cap hv => ?_)
  · obtain ⟨d, hd⟩ : ∃ d, σ.cs[j]? = some d := ⟨_, List.getElem?_eq_getElem (by omega)⟩
    obtain ⟨g', cap', hv', hcell⟩ := hs.cmd hd
    obtain rfl : g' = g := by rw [hv] at hv'; injection hv' with e _ _; injection e with e; injection e with e; exact e.symm
    obtain ⟨y, y1, y2, h3, ⟨A, ca, h0⟩ | ⟨nt', n, hD⟩⟩ := h j d hj hd
    · exact aheadC_no ⟨⟨A, ca, .inl (hcell 0 _ h0)⟩, y, hcell 3 _ h3, y1, y2⟩
    · obtain ⟨p, ca, cells, va, h0, hm, hva, hcl⟩ := hD.c0
      obtain rfl : va = adrV 0 n := hva
      exact aheadC_no ⟨⟨_, ca, .inr ⟨p, rfl, hcell 0 _ h0, cells_at (hs.fx _ hm).1 (hcl 0 _ rfl)⟩⟩, y, hcell 3 _ h3, y1, y2⟩
  · obtain ⟨g', cap', hv', hcell⟩ := hs.cmd hc
    obtain rfl : g' = g := by rw [hv] at hv'; injection hv' with e _ _; injection e with e; injection e with e; exact e.symm
    obtain ⟨p, ca, cells, va, h0, hm, hva, hcl⟩ := hA.c0
    obtain rfl : va = adrV 1 0 := hva
    exact aheadC_last (hcell 0 _ h0) (cells_at (hs.fx _ hm).1 (hcl 0 _ rfl))
end
end Go.Proofs.YtonnimbcekhbgaaGreatDoor

/- BToC. -/
namespace Go.Proofs.YtonnimbcekhbgaaGreatDoor
open Go.RowKit

/-- A set as a value. -/
abbrev setV (m : Nat → Bool) : Value := .agg #[.int .u64 (wd m 0), .int .u64 (wd m 1), .int .u64 (wd m 2), .int .u64 (wd m 3)]

theorem words_at (m : Nat → Bool) (i : Nat) (h : i < 4) : [Value.int .u64 (wd m 0), .int .u64 (wd m 1), .int .u64 (wd m 2), .int .u64 (wd m 3)][i]? = some (.int .u64 (wd m i)) := by
  match i, h with
  | 0, _ => rfl
  | 1, _ => rfl
  | 2, _ => rfl
  | 3, _ => rfl

set_option maxHeartbeats 400000 in
theorem has_any (m : Nat → Bool) (x : Nat) (hx : x < 256) (w : World) :
    Calls Tryz.prog 170 #[setV m, .int .u8 x] w fun e w' => e = .returned (.bool (m x)) ∧ Kp [] w w' := by
  have hv := words_at m (x / 64) (by omega)
  have hb := has_bit m x
  unfold setV
  generalize (wd m 0 : Int) = a0 at *
  generalize (wd m 1 : Int) = a1 at *
  generalize (wd m 2 : Int) = a2 at *
  generalize (wd m 3 : Int) = a3 at *
  generalize (wd m (x / 64) : Int) = a4 at *
  have HB : Hid _ := hb
  clear hb
  go_enter Tryz.func170, Tryz.ntmps170
  go_wp2
  go_ret
  exact ⟨by rw [← HB.out]; rfl, Kp.alloc _ _ _⟩

set_option maxHeartbeats 400000 in
theorem add_any (b : Nat) (m : Nat → Bool) (x y : Nat) (hx : x < 256) (hy : y < 256) (hxy : x ≤ y) (w : World) (hs : St w b m) :
    Calls Tryz.prog 178 #[.pointer (some ⟨b, 0, none⟩), .int .u8 x, .int .u8 y] w fun e w' => e = .returned (.tuple #[]) ∧ St w' b (span m x (y + 1)) ∧ Kp [b] w w' := by
  go_enter Tryz.func178, Tryz.ntmps178
  go_wp2
  go_loopw [6] (fun i wr => ∃ k : Nat, x ≤ k ∧ k ≤ y + 1 ∧ i = .int .i64 k ∧ St wr b (span m x k) ∧ Kp [b] w wr) (fun i _ => y + 1 - (intOf i).toNat)
  case atStart => exact ⟨x, Nat.le_refl _, by omega, rfl, by rw [span_none]; exact hs, Kp.refl _ _⟩
  case round =>
    obtain ⟨k, hk1, hk2, rfl, hst, hkp⟩ := hrel
    by_cases hlt : k ≤ y
    · have hq : k / 64 < 4 := by omega
      have hc1 := hst.cell (k / 64) hq
      have hf1 := hst.free (k / 64)
      have hst2 : Hid (∀ j, j < 4 → wr.cell? ⟨b, j, none⟩ = some (.int .u64 (wd (span m x k) j))) := hst.cell
      have hfr : Hid (∀ j, wr.frozen? ⟨b, j, none⟩ = false) := hst.free
      have hbl := hst.lt
      have hso := more_same (span m x k) k
      have HS : Hid _ := hso
      have hmo := span_more m x k hk1
      have HM : Hid _ := hmo
      clear hso hmo hst hs
      generalize hm' : span m x k = m' at *
      clear hm'
      go_wp2
      go_region
      go_wp2
      go_roundw
      case rel =>
        refine ⟨k + 1, by omega, by omega, by go_num, ⟨?_, ?_, ?_⟩, ?_⟩
        · simpa [World.setCell] using hbl
        · intro j hj
          rw [HS.out, ← HM.out]
          by_cases e : j = k / 64
          · subst e; simp [World.cell?_setCell_same, hc1]
          · rw [more_other _ _ _ e]
            have := hst2.out j hj
            simpa [World.cell?_setCell_other, e, Ne.symm e] using this
        · intro j; simpa using hfr.out j
        · exact hkp.trans ((Kp.setCell _ _ (by simp)).trans (Kp.drew _ _))
      case measure => simp [intOf]; omega
    · have e : k = y + 1 := by omega
      subst e
      clear hs
      go_wp2
      go_end0
      exact ⟨rfl, hst, hkp⟩

end Go.Proofs.YtonnimbcekhbgaaGreatDoor

/- Reading a byte of a class, its items and its names: contracts for what can be read. -/
namespace Go.Proofs.YtonnimbcekhbgaaGreatDoor
open Go.RowKit

theorem run_index53 (s : ByteArray) (c : Int) (w : World) :
    (callFunc 155 #[.string s, .int .u8 c]).run Tryz.prog w = .ok (.value (.int .i64 (Lib.indexByte s.data.toList c.toNat.toUInt8))) w := by
  rw [run_callFunc_extern Tryz.func155 (by kernel_rfl) (by kernel_rfl) (by kernel_rfl) (e := Extern.BytealgIndexByte.indexByte) (by kernel_rfl), Lib.run_indexByteString]
  rfl

set_option maxHeartbeats 400000 in
theorem index_any (s : ByteArray) (c : Int) (w : World) :
    Calls Tryz.prog 129 #[.string s, .int .u8 c] w fun e w' => e = .returned (.int .i64 (Lib.indexByte s.data.toList c.toNat.toUInt8)) ∧ w' = w := by
  have h := run_index53
  go_enter Tryz.func129, Tryz.ntmps129
  go_wp2
  go_ret
  exact ⟨rfl, rfl⟩

theorem index_q (s : ByteArray) (c : Int) {v : Int} (h : Lib.indexByte s.data.toList c.toNat.toUInt8 = v) (w : World) (n : Nat) :
    Calls Tryz.prog 129 #[.string s, .int .u8 c] (w.drewN n) fun e w'' => e = .returned (.int .i64 v) ∧ ∃ m, w'' = w.drewN m := by
  subst h
  exact Calls.quiet_of_same (index_any s c _)

set_option maxHeartbeats 800000 in
theorem byteOf_plain {b : Nat} {src : ByteArray} {k g : Nat} (barred behind : ByteArray) {w : World} (hr : Rd w b src k g) (hk : k < src.size)
    (h92 : saw src k 92 = false) (h10 : saw src k 10 = false) (hbar : Lib.indexByte barred.data.toList src[k] = -1) :
    Calls Tryz.prog 177 #[.pointer (some ⟨b, 0, none⟩), .string barred, .string behind] w fun e w' => e = .returned (.int .u8 (src[k]).toNat) ∧ Rd w' b src (k + 1) g ∧ Kp [b] w w' := by
  go_enter Tryz.func177, Tryz.ntmps177
  go_wp2_with (go_at_call 116; refine (take_no 92 hr h92).mono ?_; rintro e w1 ⟨rfl, h1, h2⟩)
  have c0 := h1.c0
  have c1 := h1.c1
  have f1 := h1.free 1
  have hsm := h1.small
  have he : ((k : Int) == (src.size : Int)) = false := by simp; omega
  have hix : Lib.indexByte barred.data.toList ((src[k].toNat : Int)).toNat.toUInt8 = -1 := by simpa using hbar
  go_quiet (first | (go_at_call 79; exact ended_q h1 _) | (go_at_call 104; exact sees_q 10 h1 h10 _) | (go_at_call 129; exact index_q _ _ hix _ _))
  go_wp2
  go_quiet (fail)
  go_wp2
  go_ret
  exact ⟨rfl, ((h1.drewN _).step hk).drewN _, h2.trans ((Kp.drewN _ _ _).trans ((Kp.setCell _ _ (by simp)).trans (Kp.drewN _ _ _)))⟩
end Go.Proofs.YtonnimbcekhbgaaGreatDoor

/- D. -/
namespace Go.Proofs.YtonnimbcekhbgaaGreatDoor
open Go.RowKit

/-- Something lies in memory (no name of a class is asked for). -/
structure Nm (w : World) : Prop where
  lt : 0 < w.heap.size
theorem Nm.keep {S : List Nat} {w w' : World} (h : Nm w) (k : Kp S w w') (_hn : 0 ∉ S) : Nm w' := ⟨Nat.lt_of_lt_of_le h.lt k.size⟩

/-- Where a reader looks. -/
def atOf (w : World) (b : Nat) : Nat := (intOf ((w.cell? ⟨b, 1, none⟩).getD undef)).toNat
theorem atOf_rd {w : World} {b : Nat} {src : ByteArray} {k g : Nat} (h : Rd w b src k g) : atOf w b = k := by simp [atOf, h.c1, intOf]
end Go.Proofs.YtonnimbcekhbgaaGreatDoor

/- EToF. -/
namespace Go.Proofs.YtonnimbcekhbgaaGreatDoor
open Go.RowKit

abbrev zero4 : Obj := .cells #[.int .u64 0, .int .u64 0, .int .u64 0, .int .u64 0] 183
def noBytes : Nat → Bool := fun _ => false

theorem wd_none (i : Nat) : wd noBytes i = 0 := by
  refine (wd_ext (by simp) fun j _ => ?_).symm
  simp [noBytes]

theorem St_new (w : World) : St (w.alloc zero4) w.heap.size noBytes := by
  refine ⟨by simp, fun i hi => ?_, fun i => by simp⟩
  rw [wd_none]
  match i, hi with
  | 0, _ => simp
  | 1, _ => simp
  | 2, _ => simp
  | 3, _ => simp

end Go.Proofs.YtonnimbcekhbgaaGreatDoor

/- A pattern that is one class, from its atom to the whole: contracts. -/
namespace Go.Proofs.YtonnimbcekhbgaaGreatDoor
open Go.RowKit

abbrev oneV (m : Nat → Bool) : Value := .iface 225 (setV m)

set_option maxHeartbeats 400000 in
theorem repeated_no {b : Nat} {src : ByteArray} {k g : Nat} (v : Value) {w : World} (hr : Rd w b src k g)
    (h1 : saw src k 42 = false) (h2 : saw src k 43 = false) (h3 : saw src k 63 = false) (h4 : saw src k 123 = false) :
    Calls Tryz.prog 171 #[.pointer (some ⟨b, 0, none⟩), v] w fun e w' => e = .returned v ∧ Rd w' b src k g ∧ Kp [b] w w' := by
  go_enter Tryz.func171, Tryz.ntmps171
  go_wp2_with fail
  refine (take_no 42 hr h1).mono ?_
  rintro e w1 ⟨rfl, r1, k1⟩
  go_wp2_with fail
  refine (take_no 43 r1 h2).mono ?_
  rintro e w2 ⟨rfl, r2, k2⟩
  go_wp2_with fail
  refine (take_no 63 r2 h3).mono ?_
  rintro e w3 ⟨rfl, r3, k3⟩
  go_wp2_with fail
  refine (take_no 123 r3 h4).mono ?_
  rintro e w4 ⟨rfl, r4, k4⟩
  go_wp2_with fail
  go_ret
  exact ⟨rfl, r4, k1.trans (k2.trans (k3.trans k4))⟩

/-- The piece at place k can be read, up to place l: it is v. -/
def PieceOk (b : Nat) (src : ByteArray) (k l g : Nat) (v : Value) : Prop :=
  ∀ w : World, Rd w b src k g → Nm w →
    Calls Tryz.prog 169 #[.pointer (some ⟨b, 0, none⟩)] w fun e w' => e = .returned v ∧ Rd w' b src l g ∧ Kp [b] w w'

theorem Tryz.infoNode : (Tryz.prog.info? 173).map (fun i => (i.zero, i.size, i.bytes)) = some (some .nilIface, 1, 16) := by kernel_rfl

end Go.Proofs.YtonnimbcekhbgaaGreatDoor
