/- What the claim needs of: HH HI KX. -/
import Derived.Test.YtonnimbcekhbgaaGreatDoorX17
import Derived.Test.YtonnimbcekhbgaaGreatDoorX21
import Derived.Test.YtonnimbcekhbgaaGreatDoorX44

/- HH. -/
namespace Go.Proofs.YtonnimbcekhbgaaGreatDoor
open Go.RowKit

section
variable {w0 w : World} {b : Nat} {src : ByteArray} {σ σ' : Sst}

theorem AdrV.mono {fs fs' : List (Nat × Obj)} (h : ∀ f ∈ fs, f ∈ fs') {A : Adr} {va : List Value} (hA : AdrV fs A va) : AdrV fs' A va := by
  cases A with
  | num x => exact hA
  | last => exact hA
  | pat Q txt =>
    obtain ⟨pb, g, o1, o2, e, h1, h2, h3⟩ := hA
    exact ⟨pb, g, o1, o2, e, h _ h1, h _ h2, h3⟩
theorem AdrsV.mono {fs fs' : List (Nat × Obj)} (h : ∀ f ∈ fs, f ∈ fs') {v : Value} {L : List Adr} (hA : AdrsV fs v L) : AdrsV fs' v L := by
  rcases hA with q | ⟨p, c, cells, h1, h2, h3⟩
  · exact .inl q
  · exact .inr ⟨p, c, cells, h1, h _ h2, fun i A hi => by
      obtain ⟨va, q1, q2⟩ := h3 i A hi
      exact ⟨va, q1.mono h, q2⟩⟩

theorem cmd_p {k k1 k3 k5 e f i x : Nat} {nt : Bool} {L : List Adr} {R : Sst → List Value → Sst → List Value → Prop} {P : Sst → Prop} (hA : AdrsOk src k k1 L) (hN : (nt = false ∧ saw src (blk src k1) 33 = false ∧ k3 = blk src k1) ∨ (nt = true ∧ saw src (blk src k1) 33 = true ∧ k3 = blk src (blk src k1 + 1)))
    (hx : saw src k3 x = true) (ht : Instr.findNow (.int .u8) (.int .u8 x) (tabE 0 opsL) 0 = some (some (i, .func (.func f) #[] #[]))) (hbare : (x = 125 ∨ x = 58) → L = [] ∧ nt = false)
    (ho : ∀ σ, P σ → ∀ r fs, OpAt w0 f b src (k3 + 1) e { σ with ranges := r, fs := fs } R) (hce : Enters f) (hR : OpR R) (hE : (x = 123 ∧ k5 = e) ∨ (x ≠ 123 ∧ mayEnd src (blk src e) = true ∧ k5 = blk src e)) : CmdOkP w0 b src k k5 P (CmdT L nt x R) := by
  intro w σ hs hcs hrg hsm hP
  obtain ⟨hk, hx⟩ := saw_at hx
  refine (command_p hs hA hN hk hx ht hbare (ho σ hP) hce (fun _ _ _ _ q => ⟨hR.c3 _ _ _ _ q, hR.cs _ _ _ _ q⟩) hE hcs hrg hsm).mono ?_
  rintro r w' ⟨hr, A, c, fs, σ', cv', v', q1, q2, q3, q4⟩
  exact ⟨hr, _, ⟨A, c, fs, σ', cv', v', q1, q2, q3, rfl⟩, q4⟩

theorem opR_opens : OpR Opens := ⟨fun _ _ _ _ h => by rw [h.2], fun _ _ _ _ h => by obtain ⟨⟨v, rfl⟩, _⟩ := h; rfl, fun _ _ _ _ h => by obtain ⟨⟨v, rfl⟩, _⟩ := h; rfl, fun _ _ _ _ h N hN => by
  obtain ⟨⟨v, rfl⟩, _⟩ := h
  have q := hN.mono (show N ≤ N + 1 by omega)
  exact ⟨q.1, by have := hN.2; simp; omega, q.3⟩⟩
theorem opR_shuts : OpR Shuts := ⟨fun _ _ _ _ h => by obtain ⟨l, i, c, v, _, _, _, rfl⟩ := h; rfl, fun _ _ _ _ h => by obtain ⟨l, i, c, v, _, _, rfl, _⟩ := h; simp, fun _ _ _ _ h => by obtain ⟨l, i, c, v, _, _, rfl, _⟩ := h; rfl, fun _ _ _ _ h N hN => by
  obtain ⟨l, i, c, v, hb, _, rfl, _⟩ := h
  have q := hN.mono (show N ≤ N + 1 by omega)
  exact ⟨q.1, by have := hN.2; rw [hb] at this; simp at this ⊢; omega, q.3⟩⟩
theorem opR_labels (x : ByteArray) : OpR (Labels x) := ⟨fun _ _ _ _ h => by rw [h.2, List.getElem?_set_ne (by omega)], fun _ _ _ _ h => by rw [h.1], fun _ _ _ _ h => by rw [h.1], fun _ _ _ _ h N hN => by
  rw [h.1]
  have q := hN.mono (show N ≤ N + 1 by omega)
  exact ⟨q.1, q.2, q.3⟩⟩
theorem opR_goesTo (x : ByteArray) (pl : Nat) : OpR (GoesTo x pl) := ⟨fun _ _ _ _ h => by rw [h.2, List.getElem?_set_ne (by omega)], fun _ _ _ _ h => by obtain ⟨⟨v, rfl⟩, _⟩ := h; rfl, fun _ _ _ _ h => by obtain ⟨⟨v, rfl⟩, _⟩ := h; rfl, fun _ _ _ _ h N hN => by
  obtain ⟨⟨v, rfl⟩, _⟩ := h
  have q := hN.mono (show N ≤ N + 1 by omega)
  exact ⟨q.1, q.2, by have := hN.3; simp; omega⟩⟩
theorem enters_open : Enters 67 := by intro p q w; simp [go_sem]
theorem enters_shut : Enters 68 := by intro p q w; simp [go_sem]
theorem enters_label : Enters 69 := by intro p q w; simp [go_sem]
theorem enters_branchR : Enters 70 := by intro p q w; simp [go_sem]

abbrev anyP : Sst → Prop := fun _ => True
/-- 1!G;h;$!d -/
abbrev uA : ByteArray := ⟨#[49, 33, 71, 59, 104, 59, 36, 33, 100]⟩
abbrev tA (σ σ' : Sst) : Prop := ∃ σ1, CmdT [.num 1] true 71 noR σ σ1 ∧ ∃ σ2, CmdT [] false 104 noR σ1 σ2 ∧ ∃ σ3, CmdT [.last] true 100 noR σ2 σ3 ∧ σ' = σ3
theorem growsT {L : List Adr} {nt : Bool} {x : Nat} {R : Sst → List Value → Sst → List Value → Prop} (hR : OpR R) : Grows anyP anyP (CmdT L nt x R) := fun σ σ' _ h => ⟨cmdT_grows hR σ σ' h, trivial⟩
theorem noAt (w0 : World) (b : Nat) (src : ByteArray) (k : Nat) (σ : Sst) (_ : anyP σ) (r : Nat) (fs : List (Nat × Obj)) : OpAt w0 76 b src k k { σ with ranges := r, fs := fs } noR := (op_nothing w0 b src k).at_ _

/-- What the first script has. -/
structure FactsA (σ : Sst) : Prop where
  ex : ∃ c0 c1 c2, σ.cs = [c0, c1, c2] ∧ AtOne σ c0 71 true (.num 1) ∧ Plain c1 104 ∧ AtOne σ c2 100 true .last
  ns : σ.ns = []
  ranges : σ.ranges = 0
  quiet : σ.quiet = false
theorem factsA (hf : Fresh uA σ) (h : tA σ σ') : FactsA σ' ∧ σ'.bs = [] ∧ σ'.gs = [] := by
  obtain ⟨σ1, ⟨A0, c0, f0, _, _, v0, a0, s0, ⟨rfl, rfl⟩, rfl⟩, σ2, ⟨A1, c1, f1, _, _, v1, a1, s1, ⟨rfl, rfl⟩, rfl⟩, σ3, ⟨A2, c2, f2, _, _, v2, a2, s2, ⟨rfl, rfl⟩, rfl⟩, rfl⟩ := h
  have hq : σ.quiet = false := hf.quiet.trans (by kernel_rfl)
  refine ⟨⟨⟨_, _, _, by show σ.cs ++ _ ++ _ ++ _ = _; rw [hf.cs]; rfl, AtOne.of rfl rfl rfl trivial ((a0.mono s1).mono s2), ⟨rfl, rfl, A1, c1, rfl⟩, AtOne.of rfl rfl rfl trivial a2⟩, hf.ns, hf.ranges, hq⟩, hf.bs, hf.gs⟩
theorem scriptA : ScriptG uA (fun _ σ' => FactsA σ') := by
  refine ⟨by decide +kernel, 3, anyP, tA, by omega, fun w0 b => ?_, fun _ _ => trivial, fun σ σ' hf h => ?_⟩
  · refine .more (n := 10) (k1 := 0) (e := 3) (by kernel_rfl) (by decide +kernel) (by omega) (cmd_p (k1 := 1) (k3 := 2) (e := 3) (i := 15) ⟨⟨by kernel_rfl, 10, by kernel_rfl⟩, by kernel_rfl⟩ (.inr ⟨rfl, by kernel_rfl, by kernel_rfl⟩) (by kernel_rfl) (by kernel_rfl) (by omega) (noAt w0 b uA 3) enters_nothing opR_nothing (.inr ⟨by omega, by kernel_rfl, by kernel_rfl⟩)) (growsT opR_nothing) ?_
    refine .more (n := 10) (k1 := 4) (e := 5) (by kernel_rfl) (by decide +kernel) (by omega) (cmd_p (k1 := 4) (k3 := 4) (e := 5) (i := 16) ⟨by kernel_rfl, rfl⟩ (.inl ⟨rfl, by kernel_rfl, by kernel_rfl⟩) (by kernel_rfl) (by kernel_rfl) (by omega) (noAt w0 b uA 5) enters_nothing opR_nothing (.inr ⟨by omega, by kernel_rfl, by kernel_rfl⟩)) (growsT opR_nothing) ?_
    refine .more (n := 10) (k1 := 6) (e := 9) (by kernel_rfl) (by decide +kernel) (by omega) (cmd_p (k1 := 7) (k3 := 8) (e := 9) (i := 12) ⟨⟨by kernel_rfl, by kernel_rfl, rfl⟩, by kernel_rfl⟩ (.inr ⟨rfl, by kernel_rfl, by kernel_rfl⟩) (by kernel_rfl) (by kernel_rfl) (by omega) (noAt w0 b uA 9) enters_nothing opR_nothing (.inr ⟨by omega, by kernel_rfl, by kernel_rfl⟩)) (growsT opR_nothing) ?_
    exact .done (n := 10) (by kernel_rfl)
  · obtain ⟨h1, h2, h3⟩ := factsA hf h
    exact ⟨h2, σ', .inl ⟨h3, rfl⟩, h1⟩

/-- $!N;s/\\n/+/ -/
abbrev uC : ByteArray := ⟨#[36, 33, 78, 59, 115, 47, 92, 110, 47, 43, 47]⟩
abbrev nlT : ByteArray := uC.extract 6 8
abbrev rC2 : Sst → List Value → Sst → List Value → Prop := Repl (rowQ [10]) nlT (uC.extract 9 10) [43] [] false 0
abbrev tC (σ σ' : Sst) : Prop := ∃ σ1, CmdT [.last] true 78 noR σ σ1 ∧ ∃ σ2, CmdT [] false 115 rC2 σ1 σ2 ∧ σ' = σ2
structure FactsC (σ : Sst) : Prop where
  ex : ∃ c0 c1, σ.cs = [c0, c1] ∧ AtOne σ c0 78 true .last ∧ IsS σ c1 (rowQ [10]) [43] [] false 0
  ns : σ.ns = []
  ranges : σ.ranges = 0
  quiet : σ.quiet = false
theorem factsC (hf : Fresh uC σ) (h : tC σ σ') : FactsC σ' ∧ σ'.bs = [] ∧ σ'.gs = [] := by
  obtain ⟨σ1, ⟨A0, c0, f0, _, _, v0, a0, s0, ⟨rfl, rfl⟩, rfl⟩, σ2, ⟨A1, c1, f1, _, _, v1, a1, s1, ⟨pb, gb, o1, o2, v, fs, hfs, rfl, i1, i2, brs, hol, rfl⟩, rfl⟩, rfl⟩ := h
  have hq : σ.quiet = false := hf.quiet.trans (by kernel_rfl)
  refine ⟨⟨⟨_, _, by show σ.cs ++ _ ++ _ = _; rw [hf.cs]; rfl, AtOne.of rfl rfl rfl trivial ((a0.mono s1).mono hfs), ⟨⟨rfl, rfl, A1, c1, rfl⟩, rfl, rfl, rfl, rfl, rfl, ⟨pb, gb, o1, o2, rfl, i1, i2, brs⟩, ⟨v, rfl, hol⟩⟩⟩, hf.ns, hf.ranges, hq⟩, hf.bs, hf.gs⟩
theorem patC : PatOk uC 5 9 (rowQ [10]) nlT := pat_ok (m := 20) [36, 33, 78, 59, 115, 47, 92, 110] [10] (by kernel_rfl) (by kernel_rfl) (by omega) (by kernel_rfl) (by decide +kernel) (by decide +kernel) (by simp)
theorem scriptC : ScriptG uC (fun _ σ' => FactsC σ') := by
  refine ⟨by decide +kernel, 2, anyP, tC, by omega, fun w0 b => ?_, fun _ _ => trivial, fun σ σ' hf h => ?_⟩
  · refine .more (n := 10) (k1 := 0) (e := 3) (by kernel_rfl) (by decide +kernel) (by omega) (cmd_p (k1 := 1) (k3 := 2) (e := 3) (i := 20) ⟨⟨by kernel_rfl, by kernel_rfl, rfl⟩, by kernel_rfl⟩ (.inr ⟨rfl, by kernel_rfl, by kernel_rfl⟩) (by kernel_rfl) (by kernel_rfl) (by omega) (noAt w0 b uC 3) enters_nothing opR_nothing (.inr ⟨by omega, by kernel_rfl, by kernel_rfl⟩)) (growsT opR_nothing) ?_
    refine .more (n := 10) (k1 := 4) (e := 11) (by kernel_rfl) (by decide +kernel) (by omega) (cmd_p (k1 := 4) (k3 := 4) (e := 11) (i := 8) ⟨by kernel_rfl, rfl⟩ (.inl ⟨rfl, by kernel_rfl, by kernel_rfl⟩) (by kernel_rfl) (by kernel_rfl) (by omega) (fun σ _ r fs => (op_replace w0 patC (rowQ_2 [10]) (by omega) (n1 := 30) (n2 := 30) (e1 := 11) (by kernel_rfl) (by kernel_rfl)).at_ _) enters_replace (opR_repl _ _ _ _ _ _ _) (.inr ⟨by omega, by kernel_rfl, by kernel_rfl⟩)) (growsT (opR_repl _ _ _ _ _ _ _)) ?_
    exact .done (n := 10) (by kernel_rfl)
  · obtain ⟨h1, h2, h3⟩ := factsC hf h
    exact ⟨h2, σ', .inl ⟨h3, rfl⟩, h1⟩
end
end Go.Proofs.YtonnimbcekhbgaaGreatDoor

/- HI. -/
namespace Go.Proofs.YtonnimbcekhbgaaGreatDoor
open Go.RowKit

section
variable {w0 w : World} {b : Nat} {src : ByteArray} {σ σ' : Sst}

/-- :a;$!{N;b a, and behind a newline };s/\\n/,/g -/
abbrev uB : ByteArray := ⟨#[58, 97, 59, 36, 33, 123, 78, 59, 98, 32, 97, 10, 125, 59, 115, 47, 92, 110, 47, 44, 47, 103]⟩
abbrev aB : ByteArray := ⟨#[97]⟩
abbrev rB2 : Sst → List Value → Sst → List Value → Prop := Repl (rowQ [10]) (uB.extract 16 18) (uB.extract 19 20) [44] [] true 0
abbrev tB (σ σ' : Sst) : Prop := ∃ σ1, CmdT [] false 58 (Labels aB) σ σ1 ∧ ∃ σ2, CmdT [.last] true 123 Opens σ1 σ2 ∧ ∃ σ3, CmdT [] false 78 noR σ2 σ3 ∧ ∃ σ4, CmdT [] false 98 (GoesTo aB 10) σ3 σ4 ∧ ∃ σ5, CmdT [] false 125 Shuts σ4 σ5 ∧ ∃ σ6, CmdT [] false 115 rB2 σ5 σ6 ∧ σ' = σ6

/-- So many commands were read, and these blocks are open. -/
structure PB (n : Nat) (bs : List Nat) (σ : Sst) : Prop where
  len : σ.cs.length = n
  bs : σ.bs = bs
  gs : σ.gs.length ≤ 1
  ls : n = 0 → σ.ls = []
  gz : n ≤ 3 → σ.gs = []

theorem growsB {n : Nat} {bs bs' : List Nat} {L : List Adr} {nt : Bool} {x : Nat} {R : Sst → List Value → Sst → List Value → Prop} (hR : OpR R) (h : ∀ σ cv σ' cv', PB n bs σ → R σ cv σ' cv' → σ'.bs = bs' ∧ σ'.gs.length ≤ 1 ∧ (n + 1 ≤ 3 → σ'.gs = [])) : Grows (PB n bs) (PB (n + 1) bs') (CmdT L nt x R) := fun σ σ' hP hT => by
  have hg := cmdT_grows hR σ σ' hT
  refine ⟨hg, ?_⟩
  obtain ⟨A, c, fs, σ1, cv, v, _, _, hr, rfl⟩ := hT
  obtain ⟨h1, h2, h3⟩ := h { σ with ranges := if L.length = 2 then σ.ranges + 1 else σ.ranges, fs := fs } _ _ _ ⟨hP.len, hP.bs, hP.gs, hP.ls, hP.gz⟩ hr
  exact ⟨by rw [hg.1, hP.len], h1, h2, fun e => by omega, h3⟩

/-- What this script has. -/
structure FactsB (σ : Sst) : Prop where
  ex : ∃ c0 c1 c2 c3 c4 c5 : List Value, σ.cs = [c0, c1, c2, c3, c4, c5] ∧ Plain c0 58 ∧ (AtOne σ c1 123 true .last ∧ c1[5]? = some (.int .i64 ((4 : Nat) : Int))) ∧ Plain c2 78 ∧ (Plain c3 98 ∧ c3[5]? = some (.int .i64 ((0 : Nat) : Int))) ∧ c4[3]? = some (.int .u8 ((125 : Nat) : Int)) ∧ IsS σ c5 (rowQ [10]) [44] [] true 0
  ns : σ.ns = []
  ranges : σ.ranges = 0
  quiet : σ.quiet = false

theorem snoc_one {l : List Nat} {i k : Nat} (h : [k] = l ++ [i]) : l = [] ∧ i = k := by
  cases l with
  | nil => simpa using h.symm
  | cons a l => simp at h

/-- What stays while a command is read. -/
structure Ks (σ σ' : Sst) : Prop where
  quiet : σ'.quiet = σ.quiet
  ns : σ'.ns = σ.ns
  ranges : σ'.ranges = σ.ranges
  fs : ∀ f ∈ σ.fs, f ∈ σ'.fs
theorem Ks.trans {σ1 σ2 σ3 : Sst} (h : Ks σ1 σ2) (h' : Ks σ2 σ3) : Ks σ1 σ3 := ⟨h'.quiet.trans h.quiet, h'.ns.trans h.ns, h'.ranges.trans h.ranges, fun f hf => h'.fs f (h.fs f hf)⟩
theorem st_label {x : ByteArray} (h : CmdT [] false 58 (Labels x) σ σ') : ∃ A ca, σ'.cs = σ.cs ++ [(cmdV (.slice A 0 ca) 0 false 58).set 4 (.string x)] ∧ σ'.bs = σ.bs ∧ σ'.gs = σ.gs ∧ σ'.ls = σ.ls ++ [(x, σ.cs.length)] ∧ Ks σ σ' := by
  obtain ⟨A, c, fs, σ1, cv, v, _, hs, ⟨rfl, rfl⟩, rfl⟩ := h
  exact ⟨A, c, rfl, rfl, rfl, rfl, ⟨rfl, rfl, rfl, hs⟩⟩
theorem st_open (h : CmdT [.last] true 123 Opens σ σ') : ∃ A ca, σ'.cs = σ.cs ++ [cmdV (.slice A 1 ca) 0 true 123] ∧ σ'.bs = σ.bs ++ [σ.cs.length] ∧ σ'.gs = σ.gs ∧ σ'.ls = σ.ls ∧ AdrsV σ'.fs (.slice A 1 ca) [.last] ∧ Ks σ σ' := by
  obtain ⟨A, c, fs, σ1, cv, v, ha, hs, ⟨⟨u, rfl⟩, rfl⟩, rfl⟩ := h
  exact ⟨A, c, rfl, rfl, rfl, rfl, ha, ⟨rfl, rfl, rfl, hs⟩⟩
theorem st_no {x : Nat} (h : CmdT [] false x noR σ σ') : ∃ A ca, σ'.cs = σ.cs ++ [cmdV (.slice A 0 ca) 0 false x] ∧ σ'.bs = σ.bs ∧ σ'.gs = σ.gs ∧ σ'.ls = σ.ls ∧ Ks σ σ' := by
  obtain ⟨A, c, fs, σ1, cv, v, _, hs, ⟨rfl, rfl⟩, rfl⟩ := h
  exact ⟨A, c, rfl, rfl, rfl, rfl, ⟨rfl, rfl, rfl, hs⟩⟩
theorem st_goto {x : ByteArray} {pl : Nat} (h : CmdT [] false 98 (GoesTo x pl) σ σ') : ∃ A ca, σ'.cs = σ.cs ++ [(cmdV (.slice A 0 ca) 0 false 98).set 4 (.string x)] ∧ σ'.bs = σ.bs ∧ σ'.gs = σ.gs ++ [(σ.cs.length, pl)] ∧ σ'.ls = σ.ls ∧ Ks σ σ' := by
  obtain ⟨A, c, fs, σ1, cv, v, _, hs, ⟨⟨u, rfl⟩, rfl⟩, rfl⟩ := h
  exact ⟨A, c, rfl, rfl, rfl, rfl, ⟨rfl, rfl, rfl, hs⟩⟩
theorem st_shut (h : CmdT [] false 125 Shuts σ σ') : ∃ A ca l i c, σ.bs = l ++ [i] ∧ σ.cs[i]? = some c ∧ σ'.cs = σ.cs.set i (c.set 5 (.int .i64 (σ.cs.length : Int))) ++ [cmdV (.slice A 0 ca) 0 false 125] ∧ σ'.bs = l ∧ σ'.gs = σ.gs ∧ σ'.ls = σ.ls ∧ Ks σ σ' := by
  obtain ⟨A, c, fs, σ1, cv, v, _, hs, ⟨l, i, d, u, hb, hc, rfl, rfl⟩, rfl⟩ := h
  exact ⟨A, c, l, i, d, hb, hc, rfl, rfl, rfl, rfl, ⟨rfl, rfl, rfl, hs⟩⟩
theorem st_repl {Q : Nat → World → Prop} {txt raw : ByteArray} {L : List UInt8} {H : List (Nat × Nat)} {g : Bool} {m : Nat} (h : CmdT [] false 115 (Repl Q txt raw L H g m) σ σ') : ∃ c, σ'.cs = σ.cs ++ [c] ∧ IsS σ' c Q L H g m ∧ σ'.bs = σ.bs ∧ σ'.gs = σ.gs ∧ σ'.ls = σ.ls ∧ Ks σ σ' := by
  obtain ⟨A, c, fs, σ1, cv, v, _, hs, ⟨pb, gb, o1, o2, u, fs', hfs, rfl, i1, i2, brs, hol, rfl⟩, rfl⟩ := h
  exact ⟨_, rfl, ⟨⟨rfl, rfl, A, c, rfl⟩, rfl, rfl, rfl, rfl, rfl, ⟨pb, gb, o1, o2, rfl, i1, i2, brs⟩, ⟨u, rfl, hol⟩⟩, rfl, rfl, rfl, ⟨rfl, rfl, rfl, fun f hf => hfs f (hs f hf)⟩⟩
theorem IsS.of_fs {c : List Value} {Q : Nat → World → Prop} {L : List UInt8} {H : List (Nat × Nat)} {g : Bool} {m : Nat} (h : IsS σ c Q L H g m) (e : σ'.fs = σ.fs) : IsS σ' c Q L H g m := ⟨h.pl, h.c6, h.c14, h.c16, h.c17, h.c18, by rw [e]; exact h.pat, by rw [e]; exact h.hol⟩

theorem factsB (hf : Fresh uB σ) (h : tB σ σ') : σ'.bs = [] ∧ ∃ σ2, Rz σ' σ2 ∧ FactsB σ2 := by
  obtain ⟨σ1, h1, σ2, h2, σ3, h3, σ4, h4, σ5, h5, _, h6, rfl⟩ := h
  obtain ⟨A0, a0, p0, q0, r0, t0, k0⟩ := st_label h1
  obtain ⟨A1, a1, p1, q1, r1, t1, adr, k1⟩ := st_open h2
  obtain ⟨A2, a2, p2, q2, r2, t2, k2⟩ := st_no h3
  obtain ⟨A3, a3, p3, q3, r3, t3, k3⟩ := st_goto h4
  obtain ⟨A4, a4, l, i, c, hb, hc, p4, q4, r4, t4, k4⟩ := st_shut h5
  obtain ⟨c5, p5, hS, q5, r5, t5, k5⟩ := st_repl h6
  rw [hf.cs, List.nil_append] at p0
  rw [p0] at p1
  rw [p1] at p2
  rw [p2] at p3
  rw [p3] at p4 hc
  have hb' : [1] = l ++ [i] := by rw [← hb, q3, q2, q1, q0, hf.bs, p0]; rfl
  obtain ⟨rfl, rfl⟩ := snoc_one hb'
  injection hc with hc
  subst hc
  rw [p4] at p5
  have kk := ((((k0.trans k1).trans k2).trans k3).trans k4).trans k5
  have eG : σ'.gs = [(3, 10)] := by rw [r5, r4, r3, r2, r1, r0, hf.gs, p2]; rfl
  have eL : σ'.ls = [(aB, 0)] := by rw [t5, t4, t3, t2, t1, t0, hf.ls, hf.cs]; rfl
  refine ⟨by rw [q5, q4], { σ' with cs := σ'.cs.set 3 (((cmdV (.slice A3 0 a3) 0 false 98).set 4 (.string aB)).set 5 (.int .i64 ((0 : Nat) : Int))) }, .inr ⟨3, 10, (cmdV (.slice A3 0 a3) 0 false 98).set 4 (.string aB), aB, 0, 0, eG, by rw [p5]; rfl, rfl, by kernel_rfl, by rw [eL]; rfl, rfl⟩, ⟨⟨(cmdV (.slice A0 0 a0) 0 false 58).set 4 (.string aB), (cmdV (.slice A1 1 a1) 0 true 123).set 5 (.int .i64 ((4 : Nat) : Int)), cmdV (.slice A2 0 a2) 0 false 78, ((cmdV (.slice A3 0 a3) 0 false 98).set 4 (.string aB)).set 5 (.int .i64 ((0 : Nat) : Int)), cmdV (.slice A4 0 a4) 0 false 125, c5, by rw [p5]; rfl, ⟨rfl, rfl, A0, a0, rfl⟩, ⟨AtOne.of rfl rfl rfl trivial (adr.mono (((k2.trans k3).trans k4).trans k5).fs), rfl⟩, ⟨rfl, rfl, A2, a2, rfl⟩, ⟨⟨rfl, rfl, A3, a3, rfl⟩, rfl⟩, rfl, hS.of_fs rfl⟩, ?_, ?_, ?_⟩⟩
  · exact kk.ns.trans hf.ns
  · exact kk.ranges.trans hf.ranges
  · exact kk.quiet.trans (hf.quiet.trans (by kernel_rfl))

theorem patB : PatOk uB 15 19 (rowQ [10]) (uB.extract 16 18) := pat_ok (m := 20) [58, 97, 59, 36, 33, 123, 78, 59, 98, 32, 97, 10, 125, 59, 115, 47, 92, 110] [10] (by kernel_rfl) (by kernel_rfl) (by omega) (by kernel_rfl) (by decide +kernel) (by decide +kernel) (by simp)
theorem scriptB : ScriptG uB (fun _ σ' => FactsB σ') := by
  refine ⟨by decide +kernel, 6, PB 0 [], tB, by omega, fun w0 b => ?_, fun σ hf => ⟨by rw [hf.cs]; rfl, hf.bs, by rw [hf.gs]; simp, fun _ => hf.ls, fun _ => hf.gs⟩, fun σ σ' hf h => factsB hf h⟩
  refine .more (n := 10) (k1 := 0) (e := 2) (P' := PB 1 []) (by kernel_rfl) (by decide +kernel) (by omega) (cmd_p (k1 := 0) (k3 := 0) (e := 2) (i := 2) ⟨by kernel_rfl, rfl⟩ (.inl ⟨rfl, by kernel_rfl, by kernel_rfl⟩) (by kernel_rfl) (by kernel_rfl) (fun _ => ⟨rfl, rfl⟩) (fun σ hP r fs => op_label (n := 30) (by kernel_rfl) (by kernel_rfl) (by show Instr.findNow _ _ (strE 0 σ.ls) 0 = _; rw [hP.ls rfl]; rfl) (by show σ.cs.length ≤ _; rw [hP.len]; omega)) enters_label (opR_labels _) (.inr ⟨by omega, by kernel_rfl, by kernel_rfl⟩)) (growsB (opR_labels _) (fun σ cv σ' cv' hP h => by rw [h.1]; exact ⟨hP.bs, hP.gs, fun _ => hP.gz (by omega)⟩)) ?_
  refine .more (n := 10) (k1 := 3) (e := 6) (P' := PB 2 [1]) (by kernel_rfl) (by decide +kernel) (by omega) (cmd_p (k1 := 4) (k3 := 5) (e := 6) (i := 0) ⟨⟨by kernel_rfl, by kernel_rfl, rfl⟩, by kernel_rfl⟩ (.inr ⟨rfl, by kernel_rfl, by kernel_rfl⟩) (by kernel_rfl) (by kernel_rfl) (by omega) (fun σ hP r fs => op_open (by show σ.bs.length < 8; rw [hP.bs]; simp) (by show σ.cs.length ≤ _; rw [hP.len]; omega)) enters_open opR_opens (.inl ⟨rfl, rfl⟩)) (growsB opR_opens (fun σ cv σ' cv' hP h => by obtain ⟨⟨v, rfl⟩, _⟩ := h; exact ⟨by show σ.bs ++ [σ.cs.length] = _; rw [hP.bs, hP.len]; rfl, hP.gs, fun _ => hP.gz (by omega)⟩)) ?_
  refine .more (n := 10) (k1 := 6) (e := 7) (P' := PB 3 [1]) (by kernel_rfl) (by decide +kernel) (by omega) (cmd_p (k1 := 6) (k3 := 6) (e := 7) (i := 20) ⟨by kernel_rfl, rfl⟩ (.inl ⟨rfl, by kernel_rfl, by kernel_rfl⟩) (by kernel_rfl) (by kernel_rfl) (by omega) (fun σ _ => noAt w0 b uB 7 σ trivial) enters_nothing opR_nothing (.inr ⟨by omega, by kernel_rfl, by kernel_rfl⟩)) (growsB opR_nothing (fun σ cv σ' cv' hP h => by rw [h.1]; exact ⟨hP.bs, hP.gs, fun _ => hP.gz (by omega)⟩)) ?_
  refine .more (n := 10) (k1 := 8) (e := 11) (P' := PB 4 [1]) (by kernel_rfl) (by decide +kernel) (by omega) (cmd_p (k1 := 8) (k3 := 8) (e := 11) (i := 3) ⟨by kernel_rfl, rfl⟩ (.inl ⟨rfl, by kernel_rfl, by kernel_rfl⟩) (by kernel_rfl) (by kernel_rfl) (by omega) (fun σ hP r fs => op_branch (n := 30) (by kernel_rfl) (by kernel_rfl) (by kernel_rfl) (by kernel_rfl) (by omega) (by show σ.cs.length ≤ _; rw [hP.len]; omega) (by show σ.gs.length ≤ _; have := hP.gs; omega)) enters_branchR (opR_goesTo _ _) (.inr ⟨by omega, by kernel_rfl, by kernel_rfl⟩)) (growsB (opR_goesTo _ _) (fun σ cv σ' cv' hP h => by obtain ⟨⟨v, rfl⟩, _⟩ := h; exact ⟨hP.bs, by show (σ.gs ++ [_]).length ≤ 1; rw [hP.gz (by omega)]; simp, fun e => by omega⟩)) ?_
  refine .more (n := 10) (k1 := 12) (e := 13) (P' := PB 5 []) (by kernel_rfl) (by decide +kernel) (by omega) (cmd_p (k1 := 12) (k3 := 12) (e := 13) (i := 1) ⟨by kernel_rfl, rfl⟩ (.inl ⟨rfl, by kernel_rfl, by kernel_rfl⟩) (by kernel_rfl) (by kernel_rfl) (fun _ => ⟨rfl, rfl⟩) (fun σ hP r fs => by
    obtain ⟨c, hc⟩ : ∃ c, σ.cs[1]? = some c := ⟨_, List.getElem?_eq_getElem (by rw [hP.len]; omega)⟩
    exact op_shut (l := []) (i := 1) hP.bs hc (by show σ.cs.length ≤ _; rw [hP.len]; omega) (by simp)) enters_shut opR_shuts (.inr ⟨by omega, by kernel_rfl, by kernel_rfl⟩)) (growsB opR_shuts (fun σ cv σ' cv' hP h => by
    obtain ⟨l, i, c, v, hb, _, rfl, _⟩ := h
    exact ⟨(snoc_one (hP.bs.symm.trans hb)).1, hP.gs, fun e => by omega⟩)) ?_
  refine .more (n := 10) (k1 := 14) (e := 22) (P' := PB 6 []) (by kernel_rfl) (by decide +kernel) (by omega) (cmd_p (k1 := 14) (k3 := 14) (e := 22) (i := 8) ⟨by kernel_rfl, rfl⟩ (.inl ⟨rfl, by kernel_rfl, by kernel_rfl⟩) (by kernel_rfl) (by kernel_rfl) (by omega) (fun σ _ r fs => (op_replace w0 patB (rowQ_2 [10]) (by omega) (n1 := 30) (n2 := 30) (e1 := 21) (by kernel_rfl) (by kernel_rfl)).at_ _) enters_replace (opR_repl _ _ _ _ _ _ _) (.inr ⟨by omega, by kernel_rfl, by kernel_rfl⟩)) (growsB (opR_repl _ _ _ _ _ _ _) (fun σ cv σ' cv' hP h => by
    obtain ⟨pb, gb, o1, o2, v, fs, _, rfl, _⟩ := h
    exact ⟨hP.bs, hP.gs, fun e => by omega⟩)) ?_
  exact .done (n := 10) (by kernel_rfl)
end
end Go.Proofs.YtonnimbcekhbgaaGreatDoor

/- KX. -/
namespace Go.Proofs.YtonnimbcekhbgaaGreatDoor
open Go.RowKit

section
variable {x sp : List UInt8} {f : Nat → List UInt8} {c fr a : Nat} {acc : List UInt8}
/-- Up to where the law has come: so many places, up to here, and what it has told. -/
def Lp (x sp : List UInt8) (f : Nat → List UInt8) (c fr : Nat) (acc : List UInt8) : Prop :=
  ∃ K, sp.length + 1 ≤ K + fr ∧ lawR sp x.length f c (occs (qx x sp) (sp.length + 1) x.length K fr) (fr, acc) = lawR sp x.length f 0 (px x sp) (0, [])
theorem Lp.start : Lp x sp f 0 0 [] := ⟨sp.length + 1, by omega, rfl⟩
theorem Lp.step (hx : 1 ≤ x.length) (h : Lp x sp f c fr acc) (hn : nextO (qx x sp) (sp.length + 1) fr = some a) : Lp x sp f (c + 1) (a + x.length) (acc ++ (sp.take a).drop fr ++ f c) := by
  obtain ⟨K, hK, e⟩ := h
  obtain ⟨h1, h2, h3, h4⟩ := nextO_some hn
  match K, hK, e with
  | 0, hK, _ => omega
  | K + 1, hK, e =>
    unfold occs at e
    rw [hn] at e
    exact ⟨K, by omega, e⟩
theorem Lp.done (h : Lp x sp f c fr acc) (hn : nextO (qx x sp) (sp.length + 1) fr = none) : lawT sp x.length f (px x sp) = acc ++ sp.drop fr := by
  obtain ⟨K, hK, e⟩ := h
  have : occs (qx x sp) (sp.length + 1) x.length K fr = [] := by
    cases K with
    | zero => rfl
    | succ K => unfold occs; rw [hn]
  rw [this] at e
  unfold lawT
  rw [← e]
  rfl

end
end Go.Proofs.YtonnimbcekhbgaaGreatDoor
