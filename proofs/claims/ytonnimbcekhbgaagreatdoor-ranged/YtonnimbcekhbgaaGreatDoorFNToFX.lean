/- One text out of several: FN FX. -/
import Derived.Test.YtonnimbcekhbgaaGreatDoorEOToEP
import Derived.Test.YtonnimbcekhbgaaGreatDoorFKToFL
import Derived.Test.YtonnimbcekhbgaaGreatDoorFW

/- Scripts of one command. -/
namespace Go.Proofs.YtonnimbcekhbgaaGreatDoor
open Go.RowKit

/-- What a command that was read makes of what was read. -/
def CmdT (L : List Adr) (nt : Bool) (x : Nat) (R : Sst → List Value → Sst → List Value → Prop) (σ σ' : Sst) : Prop :=
  ∃ A c fs σ1 cv v, AdrsV fs (.slice A L.length c) L ∧ (∀ f ∈ σ.fs, f ∈ fs) ∧
    R { σ with ranges := if L.length = 2 then σ.ranges + 1 else σ.ranges, fs := fs } (cmdV (.slice A L.length c) (if L.length = 2 then σ.ranges else 0) nt x) σ1 cv ∧ σ' = { σ1 with vc := v, cs := σ1.cs ++ [cv] }

/-- What is asked of an operand. -/
structure OpR (R : Sst → List Value → Sst → List Value → Prop) : Prop where
  c3 : ∀ σ cv σ' cv', R σ cv σ' cv' → cv'[3]? = cv[3]?
  cs : ∀ σ cv σ' cv', R σ cv σ' cv' → σ'.cs.length = σ.cs.length
  ranges : ∀ σ cv σ' cv', R σ cv σ' cv' → σ'.ranges = σ.ranges
  small : ∀ σ cv σ' cv', R σ cv σ' cv' → ∀ N, Small σ N → Small σ' (N + 1)

theorem opR_nothing : OpR (fun σ cv σ' cv' => σ' = σ ∧ cv' = cv) := ⟨fun _ _ _ _ h => by rw [h.2], fun _ _ _ _ h => by rw [h.1], fun _ _ _ _ h => by rw [h.1], fun _ _ _ _ h N hN => by rw [h.1]; exact hN.mono (by omega)⟩
theorem opR_status (x : Nat) : OpR (fun σ cv σ' cv' => σ' = σ ∧ cv' = cv.set 8 (.int .i64 x)) := ⟨fun _ _ _ _ h => by rw [h.2, List.getElem?_set_ne (by omega)], fun _ _ _ _ h => by rw [h.1], fun _ _ _ _ h => by rw [h.1], fun _ _ _ _ h N hN => by rw [h.1]; exact hN.mono (by omega)⟩
theorem opR_named (x : ByteArray) : OpR (Named x) := by
  refine ⟨fun σ cv σ' cv' h => ?_, fun σ cv σ' cv' h => ?_, fun σ cv σ' cv' h => ?_, fun σ cv σ' cv' h N hN => ?_⟩ <;> rcases h with ⟨_, v, e1, e2⟩ | ⟨_, _, _, e1, e2⟩
  · rw [e2, List.getElem?_set_ne (by omega), List.getElem?_set_ne (by omega)]
  · rw [e2, List.getElem?_set_ne (by omega), List.getElem?_set_ne (by omega)]
  · rw [e1]
  · rw [e1]
  · rw [e1]
  · rw [e1]
  · rw [e1]
    exact ⟨by show (σ.ns ++ [x]).length ≤ _; rw [List.length_append]; exact Nat.add_le_add_right hN.ns 1, Nat.le_trans hN.bs (by omega), Nat.le_trans hN.gs (by omega)⟩
  · rw [e1]; exact hN.mono (by omega)

theorem cmdT_grows {L : List Adr} {nt : Bool} {x : Nat} {R : Sst → List Value → Sst → List Value → Prop} (hR : OpR R) (σ σ' : Sst) (h : CmdT L nt x R σ σ') : σ'.cs.length = σ.cs.length + 1 ∧ σ'.ranges ≤ σ.ranges + 1 ∧ ∀ N, Small σ N → Small σ' (N + 1) := by
  obtain ⟨A, c, fs, σ1, cv, v, _, _, hr, rfl⟩ := h
  have h1 := hR.cs _ _ _ _ hr
  have h2 := hR.ranges _ _ _ _ hr
  refine ⟨?_, ?_, fun N hN => ?_⟩
  · show (σ1.cs ++ [cv]).length = _
    rw [List.length_append, h1]; rfl
  · show σ1.ranges ≤ _
    rw [h2]
    show (if L.length = 2 then σ.ranges + 1 else σ.ranges) ≤ _
    split <;> omega
  · have := hR.small _ _ _ _ hr N ⟨hN.ns, hN.bs, hN.gs⟩
    exact ⟨this.ns, this.bs, this.gs⟩

/-- A command at a place of a script, from the byte on. -/
structure CmdAt (src : ByteArray) (k e k5 f x : Nat) (L : List Adr) : Prop where
  adrs : ∃ k1 k3, AdrsOk src k k1 L ∧ saw src (blk src k1) 33 = false ∧ k3 = blk src k1 ∧ (∃ h : k3 < src.size, (src[k3]).toNat = x) ∧ k3 + 1 = e
  op : ∃ i, Instr.findNow (.int .u8) (.int .u8 x) (tabE 0 opsL) 0 = some (some (i, .func (.func f) #[] #[]))
  bare : x ≠ 125 ∧ x ≠ 58 ∧ x ≠ 123

theorem CmdAt.ok {w0 : World} {b : Nat} {src : ByteArray} {k e e' k5 f x : Nat} {L : List Adr} {R : Sst → List Value → Sst → List Value → Prop} (h : CmdAt src k e k5 f x L) (ho : OpOk w0 f b src e e' R) (hR : OpR R) (hce : Enters f) (hE : mayEnd src (blk src e') = true) (h5 : k5 = blk src e') : CmdOk w0 b src k k5 (CmdT L false x R) := by
  intro w σ hs hcs hrg hsm
  obtain ⟨k1, k3, hA, h33, h3, ⟨hk, hx⟩, he⟩ := h.adrs
  obtain ⟨i, hi⟩ := h.op
  obtain ⟨b1, b2, b3⟩ := h.bare
  refine (command_v hs hA (.inl ⟨rfl, h33, h3⟩) hk hx hi (fun q => by omega) (by rw [he]; exact ho) hce (fun _ _ _ _ q => ⟨hR.c3 _ _ _ _ q, hR.cs _ _ _ _ q⟩) (.inr ⟨b3, hE, h5⟩) hcs hrg hsm).mono ?_
  rintro r w' ⟨hr, A, c, fs, σ', cv', v', q1, q2, q3, q4⟩
  exact ⟨hr, _, ⟨A, c, fs, σ', cv', v', q1, q2, q3, rfl⟩, q4⟩

theorem enters_nothing : Enters 76 := by intro p q w; simp [go_sem]
theorem enters_status : Enters 74 := by intro p q w; simp [go_sem]
theorem enters_file : Enters 75 := by intro p q w; simp [go_sem]

/-- A command that has no operand, and no address. -/
theorem cmd_one {w0 : World} {b : Nat} {src : ByteArray} {k k5 x : Nat} (h : CmdAt src k (k + 1) k5 76 x []) (hE : mayEnd src (blk src (k + 1)) = true) (h5 : k5 = blk src (k + 1)) : CmdOk w0 b src k k5 (CmdT [] false x (fun σ cv σ' cv' => σ' = σ ∧ cv' = cv)) :=
  h.ok (op_nothing w0 b src (k + 1)) opR_nothing enters_nothing hE h5

theorem script_none (src : ByteArray) (n : Nat) (h : btwN src n 0 = some src.size) (hz : src.size ≤ 2000) : Script src (fun σ σ' => σ' = σ) :=
  ⟨hz, ⟨0, by omega, fun _ _ => .done h⟩, fun σ σ' hf e => by rw [e]; exact ⟨hf.bs, hf.gs⟩⟩

def oneT (L : List Adr) (x : Nat) (R : Sst → List Value → Sst → List Value → Prop) (σ σ' : Sst) : Prop := ∃ σ1, CmdT L false x R σ σ1 ∧ σ' = σ1
theorem script_plain (src : ByteArray) (x n : Nat) (hz : src.size = 1) (hb : btwN src n 0 = some 0) (h : CmdAt src 0 1 1 76 x []) (hE : mayEnd src (blk src 1) = true) (h5 : 1 = blk src 1) (hb' : btwN src n 1 = some src.size) : Script src (oneT [] x (fun σ cv σ' cv' => σ' = σ ∧ cv' = cv)) := by
  refine ⟨by omega, ⟨1, by omega, fun w0 b => .more hb (by omega) (by omega) (cmd_one h hE h5) (cmdT_grows opR_nothing) (.done hb')⟩, fun σ σ' hf e => ?_⟩
  obtain ⟨σ1, ⟨A, c, fs, σ2, cv, v, _, _, ⟨rfl, rfl⟩, rfl⟩, rfl⟩ := e
  exact ⟨hf.bs, hf.gs⟩
end Go.Proofs.YtonnimbcekhbgaaGreatDoor

/- The script's reader: y. -/
namespace Go.Proofs.YtonnimbcekhbgaaGreatDoor
open Go.RowKit

set_option maxHeartbeats 400000 in
theorem expect_v {w : World} {b k : Nat} {src : ByteArray} (x : Int) (hr : Cur w b src k) (h : saw src k x = true) :
    Calls Tryz.prog 110 #[.pointer (some ⟨b, 0, none⟩), .int .u8 x] w fun e w' => e = .returned (.tuple #[]) ∧ Cur w' b src (k + 1) ∧ Mv b w w' := by
  have H := hid (take_v x hr h)
  clear h
  go_enter Tryz.func110, Tryz.ntmps110
  go_wp2_with fail
  refine H.out.mono ?_
  rintro e w1 ⟨rfl, h1, m1⟩
  go_wp2_with fail
  go_end0
  exact ⟨rfl, h1, m1⟩

/-- What y has. -/
def Swaps (r1 : ByteArray) (L1 : List UInt8) (r2 : ByteArray) (L2 : List UInt8) : Sst → List Value → Sst → List Value → Prop := fun σ cv σ' cv' => σ' = σ ∧ cv' = (((cv.set 19 (.string r1)).set 20 (.string (ba L1))).set 21 (.string r2)).set 22 (.string (ba L2))
theorem opR_swaps (r1 : ByteArray) (L1 : List UInt8) (r2 : ByteArray) (L2 : List UInt8) : OpR (Swaps r1 L1 r2 L2) := ⟨fun _ _ _ _ h => by rw [h.2, List.getElem?_set_ne (by omega), List.getElem?_set_ne (by omega), List.getElem?_set_ne (by omega), List.getElem?_set_ne (by omega)], fun _ _ _ _ h => by rw [h.1], fun _ _ _ _ h => by rw [h.1], fun _ _ _ _ h N hN => by rw [h.1]; exact hN.mono (by omega)⟩
theorem enters_exchange : Enters 73 := by intro p q w; simp [go_sem]

set_option maxRecDepth 100000 in
set_option maxHeartbeats 2000000 in
theorem op_exchange (w0 : World) {b : Nat} {src : ByteArray} {k n e1 e2 : Nat} {L1 L2 : List UInt8} (h0 : saw src k 47 = true) (h1 : byN true src n (k + 1) [] = some (L1, e1)) (h2 : byN false src n e1 [] = some (L2, e2)) (hll : L1.length = L2.length) :
    OpOk w0 73 b src k e2 (Swaps (src.extract (k + 1) (e1 - 1)) L1 (src.extract e1 (e2 - 1)) L2) := by
  intro w σ cb cv hs hb hl hf _
  have H0 := hid h0
  have H1 := hid h1
  have H2 := hid h2
  have HLL := hid hll
  clear h0 h1 h2 hll
  have hlt := hs.cur.lt
  have hne : cb ≠ b := fun e => hf.bk 0 (by rw [e]; rfl)
  have HF := hid hf
  go_enter Tryz.func73, Tryz.ntmps73
  go_wp2_with fail
  refine (expect_v 47 hs.cur H0.out).mono ?_
  rintro r w1 ⟨rfl, c1, m1⟩
  go_wp2_with fail
  refine (bytesFrom_v c1 H1.out).mono ?_
  rintro r w2 ⟨rfl, c2, m2⟩
  have m12 := m1.trans m2
  have b2 := hb.keep m12.kp (by simpa using hne)
  have hS2 := hid (hs.move m12 c2)
  have hx : ∀ j, j < 23 → ∃ v, cv[j]? = some v := fun j hj => ⟨_, List.getElem?_eq_getElem (by rw [hl.len]; exact hj)⟩
  obtain ⟨v19, g19⟩ := hx 19 (by omega)
  obtain ⟨v20, g20⟩ := hx 20 (by omega)
  obtain ⟨v21, g21⟩ := hx 21 (by omega)
  obtain ⟨v22, g22⟩ := hx 22 (by omega)
  have d19 := b2.at_ 19 _ g19
  have d20 := b2.at_ 20 _ g20
  have f19 := b2.free 19
  have f20 := b2.free 20
  have hsz : (ba L1).size = L2.length := by rw [ba_size]; exact HLL.out
  go_upto_region 2 with fail
  obtain ⟨r1, hr1⟩ : ∃ r1, r1 = src.extract (k + 1) (e1 - 1) := ⟨_, rfl⟩
  rw [← hr1]
  have R1 := hid hr1
  clear hr1
  have l19 : 19 < cv.length := by rw [hl.len]; omega
  have l20 : 20 < (cv.set 19 (.string r1)).length := by rw [(hl.set 19 rfl).len]; omega
  have b3 := (b2.set 19 (.string r1) l19).set 20 (.string (ba L1)) l20
  have k3 : Kp [cb] w2 ((w2.setCell ⟨cb, 19, none⟩ (.string r1)).setCell ⟨cb, 20, none⟩ (.string (ba L1))) := (Kp.setCell _ _ (by simp)).trans (Kp.setCell _ _ (by simp))
  have S3 := hid (hS2.out.other k3 (fun y hy => by simp at hy; rw [hy]; exact HF.out))
  have HL3 := hid ((hl.set 19 (v := .string r1) rfl).set 20 (v := .string (ba L1)) rfl)
  obtain ⟨w3, hw3⟩ : ∃ w3, w3 = (w2.setCell ⟨cb, 19, none⟩ (.string r1)).setCell ⟨cb, 20, none⟩ (.string (ba L1)) := ⟨_, rfl⟩
  rw [← hw3] at b3 S3 ⊢
  clear hw3 k3 d19 d20 f19 f20 b2 hS2 c1 c2 m12 m1 m2 hs hb
  obtain ⟨cv3, hcv3⟩ : ∃ cv3, cv3 = (cv.set 19 (Value.string r1)).set 20 (.string (ba L1)) := ⟨_, rfl⟩
  have q20 : cv3[20]? = some (.string (ba L1)) := by rw [hcv3, List.getElem?_set_self l20]
  rw [← hcv3] at b3 HL3
  have C3 := hid hcv3
  clear hcv3 hx g19 g20 g21 g22
  have d20 := b3.at_ 20 _ q20
  go_wp2_with fail
  refine (bytesTo_v S3.out.cur H2.out).mono ?_
  rintro r w4 ⟨rfl, c4, m4⟩
  have b4 := b3.keep m4.kp (by simpa using hne)
  have S4 := hid (S3.out.move m4 c4)
  have hx : ∀ j, j < 23 → ∃ v, cv3[j]? = some v := fun j hj => ⟨_, List.getElem?_eq_getElem (by rw [HL3.out.len]; exact hj)⟩
  obtain ⟨v21, g21⟩ := hx 21 (by omega)
  obtain ⟨v22, g22⟩ := hx 22 (by omega)
  have d21 := b4.at_ 21 _ g21
  have d22 := b4.at_ 22 _ g22
  have f21 := b4.free 21
  have f22 := b4.free 22
  obtain ⟨r2, hr2⟩ : ∃ r2, r2 = src.extract e1 (e2 - 1) := ⟨_, rfl⟩
  rw [← hr2]
  have R2 := hid hr2
  clear hr2
  have l21 : 21 < cv3.length := by rw [HL3.out.len]; omega
  have l22 : 22 < (cv3.set 21 (.string r2)).length := by rw [(HL3.out.set 21 rfl).len]; omega
  have B5 := hid ((b4.set 21 (.string r2) l21).set 22 (.string (ba L2)) l22)
  have k5 : Kp [cb] w4 ((w4.setCell ⟨cb, 21, none⟩ (.string r2)).setCell ⟨cb, 22, none⟩ (.string (ba L2))) := (Kp.setCell _ _ (by simp)).trans (Kp.setCell _ _ (by simp))
  have S5 := hid (S4.out.other k5 (fun y hy => by simp at hy; rw [hy]; exact HF.out))
  clear k5
  go_wp2_with fail
  go_end0
  refine ⟨σ, _, rfl, S5.out, B5.out, (HL3.out.set 21 (v := .string r2) rfl).set 22 (v := .string (ba L2)) rfl, HF.out, rfl, ?_⟩
  rw [C3.out, R1.out, R2.out]
end Go.Proofs.YtonnimbcekhbgaaGreatDoor
