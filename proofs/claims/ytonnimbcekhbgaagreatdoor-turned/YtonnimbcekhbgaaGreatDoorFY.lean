/- What y does with lines; the law's scripts. -/
import Derived.Test.YtonnimbcekhbgaaGreatDoorFU
import Derived.Test.YtonnimbcekhbgaaGreatDoorFNToFX
import Derived.Test.YtonnimbcekhbgaaGreatDoorFR
namespace Go.Proofs.YtonnimbcekhbgaaGreatDoor
open Go.RowKit

section
variable {w0 w w' : World} {mb sb db lo hi : Nat} {s s' : Mst} {σ : Sst} {ls : List (List UInt8)}

theorem enters_y : Enters 43 := by intro p q w; simp [go_sem]
theorem deed_y : Instr.findNow (.int .u8) (.int .u8 ((121 : Nat) : Int)) (tabE 0 deedsL) 0 = some (some (7, .func (.func 43) #[] #[])) := by kernel_rfl

/-- A y, its bytes. -/
structure IsY (c : List Value) (fr tt : List UInt8) : Prop where
  pl : Plain c 121
  c20 : c[20]? = some (.string (ba fr))
  c22 : c[22]? = some (.string (ba tt))
  len : fr.length = tt.length
  le : fr.length ≤ 2000

def Pst.turn (p : Pst) (L : List UInt8) : Pst := { p.on with space := ba L }

theorem look_turn {p : Pst} {c : List Value} {fr tt L : List UInt8} (hs : Scr lo hi w0 sb 0 σ) (hc : σ.cs[p.pc]? = some c) (hY : IsY c fr tt) (hst : p.steps < 2000) (hpc : p.pc < 2000) (hsp : p.space = ba L) (hL : L.length ≤ 1000) : Look w0 mb sb db p (p.turn (turnL fr tt L)) := by
  refine look_holds hs hc hY.pl deed_y hst hpc enters_y (fun w2 s2 g m2 e2 hcell => ?_)
  have es : s2.space = ba L := (congrArg Pst.space e2).trans hsp
  have := exchange_v m2 (hcell 20 _ hY.c20) (hcell 22 _ hY.c22) es (by omega) hY.len hY.le
  rw [e2] at this
  exact this

theorem turnL_len (fr tt L : List UInt8) : (turnL fr tt L).length = L.length := by simp [turnL]

theorem does_turn {c : List Value} {fr tt : List UInt8} (hc : σ.cs = [c]) (hq : σ.quiet = false) (hY : IsY c fr tt) : Does σ (fun _ L => turnL fr tt L ++ [10]) (fun _ L => L.length + 1) := by
  intro w0 mb sb db lo hi hs p k L hb hk hL hn
  have o := hb.out
  have hn' : p.count + (L.length + 1) ≤ 190000 := hn
  have hz : (p.turn (turnL fr tt L)).space.size = L.length := by show (ba (turnL fr tt L)).size = _; rw [ba_size, turnL_len]
  have hd : (p.turn (turnL fr tt L)).space.data.toList = turnL fr tt L := ba_list _
  refine ⟨(p.turn (turnL fr tt L)).endCycle σ.quiet, .more (look_turn hs (by rw [hb.pc, hc]; rfl) hY (by rw [hb.steps]; omega) (by rw [hb.pc]; omega) hb.space hL) hb.over hb.wants (.last (look_ends hs (by show p.pc + 1 = _; rw [hb.pc, hc]; rfl) (by show p.count + (p.turn (turnL fr tt L)).space.size + 1 ≤ _; omega) hb.out hb.br)), ?_⟩
  rw [hq]
  refine ⟨⟨rfl, hb.over, hb.err, hb.status, hb.ahead, hb.br, ?_, hb.fb.up rfl (by show p.count ≤ p.count + (p.turn (turnL fr tt L)).space.size + 1; omega)⟩, rfl, rfl, rfl, ?_, ?_⟩
  · show (p.out ++ (p.turn (turnL fr tt L)).space.data.toList ++ [10]).length ≤ p.count + (p.turn (turnL fr tt L)).space.size + 1
    rw [hd, hz]; simp [turnL_len]; omega
  · show p.out ++ (p.turn (turnL fr tt L)).space.data.toList ++ [10] = _
    rw [hd]; simp
  · show p.count + (p.turn (turnL fr tt L)).space.size + 1 = p.count + (L.length + 1)
    rw [hz]; omega

theorem does_turn2 {c c2 : List Value} {fr tt fr2 tt2 : List UInt8} (hc : σ.cs = [c, c2]) (hq : σ.quiet = false) (hY : IsY c fr tt) (hY2 : IsY c2 fr2 tt2) : Does σ (fun _ L => turnL fr2 tt2 (turnL fr tt L) ++ [10]) (fun _ L => L.length + 1) := by
  intro w0 mb sb db lo hi hs p k L hb hk hL hn
  have o := hb.out
  have hn' : p.count + (L.length + 1) ≤ 190000 := hn
  obtain ⟨M, hM⟩ : ∃ M, M = turnL fr2 tt2 (turnL fr tt L) := ⟨_, rfl⟩
  have hMl : M.length = L.length := by rw [hM, turnL_len, turnL_len]
  have hz : ((p.turn (turnL fr tt L)).turn M).space.size = L.length := by show (ba M).size = _; rw [ba_size, hMl]
  have hd : ((p.turn (turnL fr tt L)).turn M).space.data.toList = M := ba_list _
  have l2 : Look w0 mb sb db (p.turn (turnL fr tt L)) ((p.turn (turnL fr tt L)).turn M) := by
    rw [hM]
    exact look_turn hs (by show σ.cs[p.pc + 1]? = _; rw [hb.pc, hc]; rfl) hY2 (by show p.steps + 1 < 2000; rw [hb.steps]; omega) (by show p.pc + 1 < 2000; rw [hb.pc]; omega) rfl (by rw [turnL_len]; exact hL)
  refine ⟨((p.turn (turnL fr tt L)).turn M).endCycle σ.quiet, .more (look_turn hs (by rw [hb.pc, hc]; rfl) hY (by rw [hb.steps]; omega) (by rw [hb.pc]; omega) hb.space hL) hb.over hb.wants (.more l2 hb.over hb.wants (.last (look_ends hs (by show p.pc + 1 + 1 = _; rw [hb.pc, hc]; rfl) (by show p.count + ((p.turn (turnL fr tt L)).turn M).space.size + 1 ≤ _; omega) hb.out hb.br))), ?_⟩
  rw [hq]
  refine ⟨⟨rfl, hb.over, hb.err, hb.status, hb.ahead, hb.br, ?_, hb.fb.up rfl (by show p.count ≤ p.count + ((p.turn (turnL fr tt L)).turn M).space.size + 1; omega)⟩, rfl, rfl, rfl, ?_, ?_⟩
  · show (p.out ++ ((p.turn (turnL fr tt L)).turn M).space.data.toList ++ [10]).length ≤ p.count + ((p.turn (turnL fr tt L)).turn M).space.size + 1
    rw [hd, hz]; simp [hMl]; omega
  · show p.out ++ ((p.turn (turnL fr tt L)).turn M).space.data.toList ++ [10] = _
    rw [hd, hM]; simp
  · show p.count + ((p.turn (turnL fr tt L)).turn M).space.size + 1 = p.count + (L.length + 1)
    rw [hz]; omega

/-- A y stands at a place of a script. -/
def yAt (s : ByteArray) (k e : Nat) (L1 L2 : List UInt8) (e1 : Nat) : Bool :=
  !(isA s k) && !(saw s (blk s k) 33) && (blk s k == k) && saw s k 121 && saw s (k + 1) 47 && (byN true s 30 (k + 1 + 1) [] == some (L1, e1)) && (byN false s 30 e1 [] == some (L2, e)) && mayEnd s (blk s e) && (blk s e == e) && (L1.length == L2.length) && decide (L1.length ≤ 2000)
abbrev yR (s : ByteArray) (k e : Nat) (L1 L2 : List UInt8) (e1 : Nat) : Sst → List Value → Sst → List Value → Prop := Swaps (s.extract (k + 1 + 1) (e1 - 1)) L1 (s.extract e1 (e - 1)) L2
theorem yAt_ok {w0 : World} {b : Nat} {s : ByteArray} {k e e1 : Nat} {L1 L2 : List UInt8} (h : yAt s k e L1 L2 e1 = true) : CmdOk w0 b s k e (CmdT [] false 121 (yR s k e L1 L2 e1)) := by
  simp only [yAt, Bool.and_eq_true, beq_iff_eq, Bool.not_eq_true', decide_eq_true_eq] at h
  obtain ⟨⟨⟨⟨⟨⟨⟨⟨⟨⟨a1, a2⟩, a3⟩, a4⟩, a5⟩, a6⟩, a7⟩, a8⟩, a9⟩, a10⟩, a11⟩ := h
  obtain ⟨hk, hx⟩ := saw_at (x := 121) a4
  exact (cmdAt_one (i := 9) a1 a2 a3 hk hx (by kernel_rfl) (by omega) e).ok (op_exchange w0 a5 a6 a7 a10) (opR_swaps _ _ _ _) enters_exchange a8 a9.symm
theorem yAt_len {s : ByteArray} {k e e1 : Nat} {L1 L2 : List UInt8} (h : yAt s k e L1 L2 e1 = true) : L1.length = L2.length ∧ L1.length ≤ 2000 := by
  simp only [yAt, Bool.and_eq_true, beq_iff_eq, Bool.not_eq_true', decide_eq_true_eq] at h
  exact ⟨h.1.2, h.2⟩
theorem isY_of {A : Option Addr} {c : Nat} {r1 r2 : ByteArray} {fr tt : List UInt8} (h1 : fr.length = tt.length) (h2 : fr.length ≤ 2000) : IsY (((((cmdV (.slice A 0 c) 0 false 121).set 19 (.string r1)).set 20 (.string (ba fr))).set 21 (.string r2)).set 22 (.string (ba tt))) fr tt :=
  ⟨⟨rfl, rfl, A, c, rfl⟩, rfl, rfl, h1, h2⟩

/-- The order of the bytes. -/
def swpL (k : Nat) (l : List UInt8) : List UInt8 := l.take k ++ (l.drop (k + 1)).take 1 ++ (l.drop k).take 1 ++ l.drop (k + 2)
def permL : Nat → List UInt8 → List UInt8
  | 0, l => l
  | i + 1, l => permL i (swpL ((i + 1) % 3) l)
abbrev abcL : List UInt8 := [97, 98, 99, 32]
def toL (N : Nat) : List UInt8 := permL N abcL
def yS (N : Nat) : ByteArray := ba ([121, 47] ++ abcL ++ [47] ++ toL N ++ [47])
def zS (N : Nat) : ByteArray := ba ([121, 47] ++ toL N ++ [47] ++ abcL ++ [47])
def yzS (N : Nat) : ByteArray := yS N ++ ba [59] ++ zS N
def yOk (N : Nat) : Bool := yAt (yS N) 0 12 abcL (toL N) 7 && (btwN (yS N) 30 0 == some 0) && (btwN (yS N) 30 12 == some (yS N).size) && ((yS N).size == 12) && !(qtB (yS N))
def yzOk (N : Nat) : Bool := yAt (yzS N) 0 12 abcL (toL N) 7 && yAt (yzS N) 13 25 (toL N) abcL 20 && (btwN (yzS N) 30 0 == some 0) && (btwN (yzS N) 30 12 == some 13) && (btwN (yzS N) 30 25 == some (yzS N).size) && ((yzS N).size == 25) && !(qtB (yzS N))
theorem yOk_all : ∀ N, N < 24 → yOk N = true ∧ yzOk N = true := by decide +kernel

def yT (N : Nat) (σ σ' : Sst) : Prop := ∃ σ1, CmdT [] false 121 (yR (yS N) 0 12 abcL (toL N) 7) σ σ1 ∧ σ' = σ1
def yzT (N : Nat) (σ σ' : Sst) : Prop := ∃ σ1, CmdT [] false 121 (yR (yzS N) 0 12 abcL (toL N) 7) σ σ1 ∧ ∃ σ2, CmdT [] false 121 (yR (yzS N) 13 25 (toL N) abcL 20) σ1 σ2 ∧ σ' = σ2
theorem script_y {N : Nat} (hN : N < 24) : Script (yS N) (yT N) := by
  have h := (yOk_all N hN).1
  simp only [yOk, Bool.and_eq_true, beq_iff_eq, Bool.not_eq_true'] at h
  obtain ⟨⟨⟨⟨a1, a2⟩, a3⟩, a4⟩, a5⟩ := h
  refine ⟨by omega, ⟨1, by omega, fun w0 b => .more a2 (by omega) (by omega) (yAt_ok a1) (cmdT_grows (opR_swaps _ _ _ _)) (.done a3)⟩, fun σ σ' hf e => ?_⟩
  obtain ⟨σ1, ⟨A, c, fs, σ2, cv, v, _, _, ⟨rfl, rfl⟩, rfl⟩, rfl⟩ := e
  exact ⟨hf.bs, hf.gs⟩
theorem script_yz {N : Nat} (hN : N < 24) : Script (yzS N) (yzT N) := by
  have h := (yOk_all N hN).2
  simp only [yzOk, Bool.and_eq_true, beq_iff_eq, Bool.not_eq_true'] at h
  obtain ⟨⟨⟨⟨⟨⟨a1, a2⟩, a3⟩, a4⟩, a5⟩, a6⟩, a7⟩ := h
  refine ⟨by omega, ⟨2, by omega, fun w0 b => .more a3 (by omega) (by omega) (yAt_ok a1) (cmdT_grows (opR_swaps _ _ _ _)) (.more a4 (by omega) (by omega) (yAt_ok a2) (cmdT_grows (opR_swaps _ _ _ _)) (.done a5))⟩, fun σ σ' hf e => ?_⟩
  obtain ⟨σ1, ⟨A, c, fs, σ2, cv, v, _, _, ⟨rfl, rfl⟩, rfl⟩, σ3, ⟨A', c', fs', σ4, cv', v', _, _, ⟨rfl, rfl⟩, rfl⟩, rfl⟩ := e
  exact ⟨hf.bs, hf.gs⟩

theorem doesY {N : Nat} {w : World} (hN : N < 24) (hl : Lok ls) : Calls Tryz.prog 12 #[.string (yS N), .string (ba (wh ls)), .string (ba (told (fun _ L => turnL abcL (toL N) L ++ [10]) 1 ls)), .int .i64 0] w fun r w' => r = .returned (.bool true) ∧ Kp [] w w' := by
  have h := (yOk_all N hN).1
  simp only [yOk, Bool.and_eq_true, beq_iff_eq, Bool.not_eq_true'] at h
  obtain ⟨⟨⟨⟨a1, a2⟩, a3⟩, a4⟩, a5⟩ := h
  refine does_lines (ct := fun _ L => L.length + 1) (script_y hN) hl (fun _ l _ h => by have := h.1; omega) (fun _ l _ h => by have := h.1; simp [turnL_len]; omega) rfl (fun σ σ' hf ht => ?_)
  obtain ⟨σ1, ⟨A, c, fs, σ2, cv, v, _, _, ⟨rfl, rfl⟩, rfl⟩, rfl⟩ := ht
  obtain ⟨l1, l2⟩ := yAt_len a1
  have hY := isY_of (A := A) (c := c) (r1 := (yS N).extract (0 + 1 + 1) (7 - 1)) (r2 := (yS N).extract 7 (12 - 1)) l1 l2
  have e : ∀ x, σ.cs ++ [x] = [x] := fun x => by rw [hf.cs]; rfl
  refine ⟨by show σ.ns.length ≤ _; rw [hf.ns]; simp, by show σ.ranges ≤ _; rw [hf.ranges]; omega, knows_of ?_ ?_, does_turn (e _) (hf.quiet.trans a5) hY⟩
  · show (σ.cs ++ [_]).length ≤ _
    rw [e]; simp
  · intro i c' hc
    rw [show σ.cs ++ [_] = _ from e _] at hc
    match i, hc with
    | 0, hc => injection hc with hc; subst hc; exact ⟨121, by omega, by omega, .inl hY.pl⟩
theorem turn_back : ∀ N, N < 24 → ∀ u ∈ abcL, (tabN (toL N) abcL (toL N).length (tabN abcL (toL N) 4 u.toNat).toUInt8.toNat).toUInt8 = u := by decide +kernel
theorem lineOk_mem {l : List UInt8} (h : LineOk l) : ∀ u ∈ l, u ∈ abcL := fun u hu => by
  rcases h.2 u hu with q | q | q | q <;> subst q <;> decide
theorem turnL_back {N : Nat} (hN : N < 24) {l : List UInt8} (h : LineOk l) : turnL (toL N) abcL (turnL abcL (toL N) l) = l := by
  have := lineOk_mem h
  unfold turnL
  rw [List.map_map]
  conv => rhs; rw [← List.map_id l]
  exact List.map_congr_left (fun u hu => turn_back N hN u (this u hu))
theorem told_back {N : Nat} (hN : N < 24) (k : Nat) : ∀ ls : List (List UInt8), (∀ l ∈ ls, LineOk l) → told (fun _ L => turnL (toL N) abcL (turnL abcL (toL N) L) ++ [10]) k ls = wh ls := by
  intro ls
  induction ls generalizing k with
  | nil => intro _; rfl
  | cons l ls ih =>
    intro h
    rw [told, wh_cons, ih _ (fun l hl => h l (by simp [hl])), turnL_back hN (h l (by simp))]
    simp
theorem doesYZ {N : Nat} {w : World} (hN : N < 24) (hl : Lok ls) : Calls Tryz.prog 12 #[.string (yzS N), .string (ba (wh ls)), .string (ba (wh ls)), .int .i64 0] w fun r w' => r = .returned (.bool true) ∧ Kp [] w w' := by
  have h := (yOk_all N hN).2
  simp only [yzOk, Bool.and_eq_true, beq_iff_eq, Bool.not_eq_true'] at h
  obtain ⟨⟨⟨⟨⟨⟨a1, a2⟩, a3⟩, a4⟩, a5⟩, a6⟩, a7⟩ := h
  refine does_lines (ct := fun _ L => L.length + 1) (script_yz hN) hl (fun _ l _ h => by have := h.1; omega) (fun _ l _ h => by have := h.1; simp [turnL_len]; omega) (told_back hN 1 ls hl.ok) (fun σ σ' hf ht => ?_)
  obtain ⟨σ1, ⟨A, c, fs, σ2, cv, v, _, _, ⟨rfl, rfl⟩, rfl⟩, σ3, ⟨A', c', fs', σ4, cv', v', _, _, ⟨rfl, rfl⟩, rfl⟩, rfl⟩ := ht
  obtain ⟨l1, l2⟩ := yAt_len a1
  obtain ⟨l3, l4⟩ := yAt_len a2
  have hY := isY_of (A := A) (c := c) (r1 := (yzS N).extract (0 + 1 + 1) (7 - 1)) (r2 := (yzS N).extract 7 (12 - 1)) l1 l2
  have hY2 := isY_of (A := A') (c := c') (r1 := (yzS N).extract (13 + 1 + 1) (20 - 1)) (r2 := (yzS N).extract 20 (25 - 1)) l3 l4
  have e : ∀ x y, σ.cs ++ [x] ++ [y] = [x, y] := fun x y => by rw [hf.cs]; rfl
  refine ⟨by show σ.ns.length ≤ _; rw [hf.ns]; simp, by show σ.ranges ≤ _; rw [hf.ranges]; omega, knows_of ?_ ?_, does_turn2 (e _ _) (hf.quiet.trans a7) hY hY2⟩
  · show (σ.cs ++ [_] ++ [_]).length ≤ _
    rw [e]; simp
  · intro i c' hc
    rw [show σ.cs ++ [_] ++ [_] = _ from e _ _] at hc
    match i, hc with
    | 0, hc => injection hc with hc; subst hc; exact ⟨121, by omega, by omega, .inl hY.pl⟩
    | 1, hc => injection hc with hc; subst hc; exact ⟨121, by omega, by omega, .inl hY2.pl⟩
end
end Go.Proofs.YtonnimbcekhbgaaGreatDoor
