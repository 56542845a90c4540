/- Scripts of one command. -/
import Derived.Test.YtonnimbcekhbgaaGreatDoorEO
import Derived.Test.YtonnimbcekhbgaaGreatDoorFL
namespace Go.Proofs.YtonnimbcekhbgaaGreatDoor
open Go.RowKit

/-- What a command that was read makes of what was read. -/
def CmdT (L : List Adr) (nt : Bool) (x : Nat) (R : Sst → List Value → Sst → List Value → Prop) (σ σ' : Sst) : Prop :=
  ∃ A c fs σ1 cv v, AdrsV fs (.slice A L.length c) L ∧ (∀ f ∈ σ.fs, f ∈ fs) ∧
    R { σ with ranges := if L.length = 2 then σ.ranges + 1 else σ.ranges, fs := fs } (cmdV (.slice A L.length c) (if L.length = 2 then σ.ranges else 0) nt x) σ1 cv ∧ σ' = { σ1 with vc := v, cs := σ1.cs ++ [cv] }

/-- What is asked of an operand. -/
structure OpR (R : Sst → List Value → Sst → List Value → Prop) : Prop where
  c3 : ∀ σ cv σ' cv', R σ cv σ' cv' → cv'[3]? = cv[3]?
  cs : ∀ σ cv σ' cv', R σ cv σ' cv' → σ'.cs.length = σ.cs.length
  ranges : ∀ σ cv σ' cv', R σ cv σ' cv' → σ'.ranges = σ.ranges
  small : ∀ σ cv σ' cv', R σ cv σ' cv' → ∀ N, Small σ N → Small σ' (N + 1)

theorem opR_nothing : OpR (fun σ cv σ' cv' => σ' = σ ∧ cv' = cv) := ⟨fun _ _ _ _ h => by rw [h.2], fun _ _ _ _ h => by rw [h.1], fun _ _ _ _ h => by rw [h.1], fun _ _ _ _ h N hN => by rw [h.1]; exact hN.mono (by omega)⟩
theorem opR_status (x : Nat) : OpR (fun σ cv σ' cv' => σ' = σ ∧ cv' = cv.set 8 (.int .i64 x)) := ⟨fun _ _ _ _ h => by rw [h.2, List.getElem?_set_ne (by omega)], fun _ _ _ _ h => by rw [h.1], fun _ _ _ _ h => by rw [h.1], fun _ _ _ _ h N hN => by rw [h.1]; exact hN.mono (by omega)⟩
theorem opR_named (x : ByteArray) : OpR (Named x) := by
  refine ⟨fun σ cv σ' cv' h => ?_, fun σ cv σ' cv' h => ?_, fun σ cv σ' cv' h => ?_, fun σ cv σ' cv' h N hN => ?_⟩ <;> rcases h with ⟨_, v, e1, e2⟩ | ⟨_, _, _, e1, e2⟩
  · rw [e2, List.getElem?_set_ne (by omega), List.getElem?_set_ne (by omega)]
  · rw [e2, List.getElem?_set_ne (by omega), List.getElem?_set_ne (by omega)]
  · rw [e1]
  · rw [e1]
  · rw [e1]
  · rw [e1]
  · rw [e1]
    exact ⟨by show (σ.ns ++ [x]).length ≤ _; rw [List.length_append]; exact Nat.add_le_add_right hN.ns 1, Nat.le_trans hN.bs (by omega), Nat.le_trans hN.gs (by omega)⟩
  · rw [e1]; exact hN.mono (by omega)

theorem cmdT_grows {L : List Adr} {nt : Bool} {x : Nat} {R : Sst → List Value → Sst → List Value → Prop} (hR : OpR R) (σ σ' : Sst) (h : CmdT L nt x R σ σ') : σ'.cs.length = σ.cs.length + 1 ∧ σ'.ranges ≤ σ.ranges + 1 ∧ ∀ N, Small σ N → Small σ' (N + 1) := by
  obtain ⟨A, c, fs, σ1, cv, v, _, _, hr, rfl⟩ := h
  have h1 := hR.cs _ _ _ _ hr
  have h2 := hR.ranges _ _ _ _ hr
  refine ⟨?_, ?_, fun N hN => ?_⟩
  · show (σ1.cs ++ [cv]).length = _
    rw [List.length_append, h1]; rfl
  · show σ1.ranges ≤ _
    rw [h2]
    show (if L.length = 2 then σ.ranges + 1 else σ.ranges) ≤ _
    split <;> omega
  · have := hR.small _ _ _ _ hr N ⟨hN.ns, hN.bs, hN.gs⟩
    exact ⟨this.ns, this.bs, this.gs⟩

/-- A command at a place of a script, from the byte on. -/
structure CmdAt (src : ByteArray) (k e k5 f x : Nat) (L : List Adr) : Prop where
  adrs : ∃ k1 k3, AdrsOk src k k1 L ∧ saw src (blk src k1) 33 = false ∧ k3 = blk src k1 ∧ (∃ h : k3 < src.size, (src[k3]).toNat = x) ∧ k3 + 1 = e
  op : ∃ i, Instr.findNow (.int .u8) (.int .u8 x) (tabE 0 opsL) 0 = some (some (i, .func (.func f) #[] #[]))
  bare : x ≠ 125 ∧ x ≠ 58 ∧ x ≠ 123

theorem CmdAt.ok {w0 : World} {b : Nat} {src : ByteArray} {k e e' k5 f x : Nat} {L : List Adr} {R : Sst → List Value → Sst → List Value → Prop} (h : CmdAt src k e k5 f x L) (ho : OpOk w0 f b src e e' R) (hR : OpR R) (hce : Enters f) (hE : mayEnd src (blk src e') = true) (h5 : k5 = blk src e') : CmdOk w0 b src k k5 (CmdT L false x R) := by
  intro w σ hs hcs hrg hsm
  obtain ⟨k1, k3, hA, h33, h3, ⟨hk, hx⟩, he⟩ := h.adrs
  obtain ⟨i, hi⟩ := h.op
  obtain ⟨b1, b2, b3⟩ := h.bare
  refine (command_v hs hA (.inl ⟨rfl, h33, h3⟩) hk hx hi (fun q => by omega) (by rw [he]; exact ho) hce (fun _ _ _ _ q => ⟨hR.c3 _ _ _ _ q, hR.cs _ _ _ _ q⟩) (.inr ⟨b3, hE, h5⟩) hcs hrg hsm).mono ?_
  rintro r w' ⟨hr, A, c, fs, σ', cv', v', q1, q2, q3, q4⟩
  exact ⟨hr, _, ⟨A, c, fs, σ', cv', v', q1, q2, q3, rfl⟩, q4⟩

theorem enters_nothing : Enters 76 := by intro p q w; simp [go_sem]
theorem enters_status : Enters 74 := by intro p q w; simp [go_sem]
theorem enters_file : Enters 75 := by intro p q w; simp [go_sem]

/-- A command that has no operand, and no address. -/
theorem cmd_one {w0 : World} {b : Nat} {src : ByteArray} {k k5 x : Nat} (h : CmdAt src k (k + 1) k5 76 x []) (hE : mayEnd src (blk src (k + 1)) = true) (h5 : k5 = blk src (k + 1)) : CmdOk w0 b src k k5 (CmdT [] false x (fun σ cv σ' cv' => σ' = σ ∧ cv' = cv)) :=
  h.ok (op_nothing w0 b src (k + 1)) opR_nothing enters_nothing hE h5

theorem script_none (src : ByteArray) (n : Nat) (h : btwN src n 0 = some src.size) (hz : src.size ≤ 2000) : Script src (fun σ σ' => σ' = σ) :=
  ⟨hz, ⟨0, by omega, fun _ _ => .done h⟩, fun σ σ' hf e => by rw [e]; exact ⟨hf.bs, hf.gs⟩⟩

def oneT (L : List Adr) (x : Nat) (R : Sst → List Value → Sst → List Value → Prop) (σ σ' : Sst) : Prop := ∃ σ1, CmdT L false x R σ σ1 ∧ σ' = σ1
theorem script_plain (src : ByteArray) (x n : Nat) (hz : src.size = 1) (hb : btwN src n 0 = some 0) (h : CmdAt src 0 1 1 76 x []) (hE : mayEnd src (blk src 1) = true) (h5 : 1 = blk src 1) (hb' : btwN src n 1 = some src.size) : Script src (oneT [] x (fun σ cv σ' cv' => σ' = σ ∧ cv' = cv)) := by
  refine ⟨by omega, ⟨1, by omega, fun w0 b => .more hb (by omega) (by omega) (cmd_one h hE h5) (cmdT_grows opR_nothing) (.done hb')⟩, fun σ σ' hf e => ?_⟩
  obtain ⟨σ1, ⟨A, c, fs, σ2, cv, v, _, _, ⟨rfl, rfl⟩, rfl⟩, rfl⟩ := e
  exact ⟨hf.bs, hf.gs⟩
end Go.Proofs.YtonnimbcekhbgaaGreatDoor
