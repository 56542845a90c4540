/- What the law's scripts do with its lines. -/
import Derived.Test.YtonnimbcekhbgaaGreatDoorFMToFV
import Derived.Test.YtonnimbcekhbgaaGreatDoorFNToFX
import Derived.Test.YtonnimbcekhbgaaGreatDoorFOToFZ
namespace Go.Proofs.YtonnimbcekhbgaaGreatDoor
open Go.RowKit

section
variable {σ : Sst} {ls : List (List UInt8)}

theorem knows_of (hl : σ.cs.length ≤ 2000) (h : ∀ (i : Nat) (c : List Value), σ.cs[i]? = some c → ∃ x : Nat, x ≠ 110 ∧ x ≠ 78 ∧ (Plain c x ∨ ∃ n, AtNum σ c x n)) : Knows σ false := by
  intro lo hi wx sb hs
  refine ahead_no hs hl (fun i g cap hi hv => ?_)
  obtain ⟨c, hc⟩ : ∃ c, σ.cs[i]? = some c := ⟨_, List.getElem?_eq_getElem hi⟩
  obtain ⟨g', cap', hv', hcell⟩ := hs.cmd hc
  obtain rfl : g' = g := by rw [hv] at hv'; injection hv' with e _ _; injection e with e; injection e with e; exact e.symm
  obtain ⟨x, hx1, hx2, hP | ⟨n, hA⟩⟩ := h i c hc
  · obtain ⟨A, ca, h0⟩ := hP.c0
    exact ⟨⟨A, ca, .inl (hcell 0 _ h0)⟩, x, hcell 3 _ hP.c3, hx1, hx2⟩
  · obtain ⟨p, ca, cells, h0, hm, q0, _⟩ := hA.c0
    exact ⟨⟨_, ca, .inr ⟨p, rfl, hcell 0 _ h0, cells_at (hs.fx _ hm).1 q0⟩⟩, x, hcell 3 _ hA.c3, hx1, hx2⟩

/-- The law's lines. -/
structure Lok (ls : List (List UInt8)) : Prop where
  ok : ∀ l ∈ ls, LineOk l
  len : ls.length ≤ 13
theorem Lok.line (h : Lok ls) : ∀ l ∈ ls, (10 : UInt8) ∉ l ∧ l.length ≤ 1000 := fun l hl => ⟨(h.ok l hl).no10, by have := (h.ok l hl).1; omega⟩
theorem Lok.size (h : Lok ls) : (wh ls).length ≤ 1404 := by have := wh_size ls h.ok; have := h.len; omega
theorem told_le {tl : Nat → List UInt8 → List UInt8} {N : Nat} (h : ∀ k l, k < 100 → LineOk l → (tl k l).length ≤ N) : ∀ (ls : List (List UInt8)) (k : Nat), k + ls.length ≤ 100 → (∀ l ∈ ls, LineOk l) → (told tl k ls).length ≤ N * ls.length
  | [], _, _, _ => by simp [told]
  | l :: ls, k, hk, hl => by
    rw [List.length_cons] at hk
    have h1 := h k l (by omega) (hl l (by simp))
    have h2 := told_le h ls (k + 1) (by omega) (fun l hm => hl l (by simp [hm]))
    rw [told, List.length_cons, List.length_append, Nat.mul_add]
    omega
theorem cnt_le {ct : Nat → List UInt8 → Nat} {N : Nat} (h : ∀ k l, k < 100 → LineOk l → ct k l ≤ N) : ∀ (ls : List (List UInt8)) (k : Nat), k + ls.length ≤ 100 → (∀ l ∈ ls, LineOk l) → cnt ct k ls ≤ N * ls.length
  | [], _, _, _ => by simp [cnt]
  | l :: ls, k, hk, hl => by
    rw [List.length_cons] at hk
    have h1 := h k l (by omega) (hl l (by simp))
    have h2 := cnt_le h ls (k + 1) (by omega) (fun l hm => hl l (by simp [hm]))
    rw [cnt, List.length_cons, Nat.mul_add]
    omega

/-- A script whose doing with a line is known, and all of the lines. -/
theorem does_lines {src : ByteArray} {T : Sst → Sst → Prop} {tl : Nat → List UInt8 → List UInt8} {ct : Nat → List UInt8 → Nat} {w : World} {o : List UInt8} (h : Script src T) (hl : Lok ls) (hct : ∀ k l, k < 100 → LineOk l → ct k l ≤ 1000) (htl : ∀ k l, k < 100 → LineOk l → (tl k l).length ≤ 1000) (ho : told tl 1 ls = o)
    (hT : ∀ σ σ', Fresh src σ → T σ σ' → σ'.ns.length ≤ 2000 ∧ σ'.ranges ≤ 2000 ∧ Knows σ' false ∧ Does σ' tl ct) :
    Calls Tryz.prog 12 #[.string src, .string (ba (wh ls)), .string (ba o), .int .i64 ((0 : Nat) : Int)] w fun r w' => r = .returned (.bool true) ∧ Kp [] w w' := by
  have h1 := hl.len
  have h2 := hl.size
  have h3 := cnt_le hct ls 1 (by omega) hl.ok
  have h4 := told_le htl ls 1 (by omega) hl.ok
  refine does_v (ah := false) h (by rw [ba_size]; omega) (by rw [← ho]; have := Nat.mul_le_mul_left 1000 h1; omega) (fun σ σ' hf ht => ?_)
  obtain ⟨q1, q2, q3, q4⟩ := hT σ σ' hf ht
  refine ⟨q1, q2, q3, ?_⟩
  rw [← ho]
  exact acts_whole q4 hl.line (by omega) (by have := Nat.mul_le_mul_left 1000 h1; omega) (by omega)

theorem none_facts {src : ByteArray} {σ σ' : Sst} (hf : Fresh src σ) (h : σ' = σ) : σ'.ns.length ≤ 2000 ∧ σ'.ranges ≤ 2000 ∧ Knows σ' false ∧ σ'.cs = [] ∧ σ'.quiet = qtB src := by
  subst h
  exact ⟨by rw [hf.ns]; simp, by rw [hf.ranges]; omega, knows_of (by rw [hf.cs]; simp) (fun i c hc => by rw [hf.cs] at hc; simp at hc), hf.cs, hf.quiet⟩
theorem plain_cmdV (A : Option Addr) (c x : Nat) : Plain (cmdV (.slice A 0 c) 0 false x) x := ⟨rfl, rfl, A, c, rfl⟩
theorem one_facts {src : ByteArray} {σ σ' : Sst} {x : Nat} (hf : Fresh src σ) (h : oneT [] x (fun σ cv σ' cv' => σ' = σ ∧ cv' = cv) σ σ') (h1 : x ≠ 110) (h2 : x ≠ 78) : σ'.ns.length ≤ 2000 ∧ σ'.ranges ≤ 2000 ∧ Knows σ' false ∧ σ'.quiet = qtB src ∧ ∃ c, σ'.cs = [c] ∧ Plain c x := by
  obtain ⟨σ1, ⟨A, c, fs, σ2, cv, v, _, _, ⟨rfl, rfl⟩, rfl⟩, rfl⟩ := h
  have e : σ.cs ++ [cmdV (.slice A ([] : List Adr).length c) (if ([] : List Adr).length = 2 then σ.ranges else 0) false x] = [cmdV (.slice A 0 c) 0 false x] := by rw [hf.cs]; rfl
  refine ⟨by show σ.ns.length ≤ _; rw [hf.ns]; simp, by show σ.ranges ≤ _; rw [hf.ranges]; omega, knows_of ?_ ?_, hf.quiet, _, e, plain_cmdV A c x⟩
  · show (σ.cs ++ _).length ≤ _
    rw [e]; simp
  · intro i c' hc
    replace hc : (σ.cs ++ [cmdV (.slice A ([] : List Adr).length c) (if ([] : List Adr).length = 2 then σ.ranges else 0) false x])[i]? = some c' := hc
    rw [e] at hc
    match i, hc with
    | 0, hc =>
      injection hc with hc
      subst hc
      exact ⟨x, h1, h2, .inl (plain_cmdV A c x)⟩

/-- What comes of the lines. -/
theorem told_none (k : Nat) (ls : List (List UInt8)) : told (fun _ _ => []) k ls = [] := by
  induction ls generalizing k with
  | nil => rfl
  | cons l ls ih => rw [told, ih]; rfl

theorem doesE {w : World} (hl : Lok ls) : Calls Tryz.prog 12 #[.string ⟨#[]⟩, .string (ba (wh ls)), .string (ba (wh ls)), .int .i64 0] w fun r w' => r = .returned (.bool true) ∧ Kp [] w w' := by
  refine does_lines (tl := fun _ L => L ++ [10]) (ct := fun _ L => L.length + 1) (script_none ⟨#[]⟩ 5 (by kernel_rfl) (by decide +kernel)) hl (fun _ l _ h => by have := h.1; omega) (fun _ l _ h => by have := h.1; simp; omega) (told_wh 1 ls) (fun σ σ' hf ht => ?_)
  obtain ⟨q1, q2, q3, q4, q5⟩ := none_facts hf ht
  have := does_none q4
  rw [show σ'.quiet = false by rw [q5]; kernel_rfl] at this
  exact ⟨q1, q2, q3, this⟩
theorem doesN {w : World} (hl : Lok ls) : Calls Tryz.prog 12 #[.string ⟨#[35, 110]⟩, .string (ba (wh ls)), .string ⟨#[]⟩, .int .i64 0] w fun r w' => r = .returned (.bool true) ∧ Kp [] w w' := by
  refine does_lines (o := []) (tl := fun _ _ => []) (ct := fun _ _ => 0) (script_none ⟨#[35, 110]⟩ 5 (by kernel_rfl) (by decide +kernel)) hl (fun _ l _ h => by omega) (fun _ l _ h => by simp) (told_none 1 ls) (fun σ σ' hf ht => ?_)
  obtain ⟨q1, q2, q3, q4, q5⟩ := none_facts hf ht
  have := does_none q4
  rw [show σ'.quiet = true by rw [q5]; kernel_rfl] at this
  exact ⟨q1, q2, q3, this⟩

theorem cmdAt_one {src : ByteArray} {k x i : Nat} {f : Nat} (h1 : isA src k = false) (h2 : saw src (blk src k) 33 = false) (h3 : blk src k = k) (h4 : k < src.size) (h5 : (src[k]).toNat = x) (h6 : Instr.findNow (.int .u8) (.int .u8 x) (tabE 0 opsL) 0 = some (some (i, .func (.func f) #[] #[]))) (h7 : x ≠ 125 ∧ x ≠ 58 ∧ x ≠ 123) (k5 : Nat) : CmdAt src k (k + 1) k5 f x [] :=
  ⟨⟨k, k, ⟨h1, rfl⟩, h2, h3.symm, ⟨h4, h5⟩, rfl⟩, ⟨i, h6⟩, h7⟩

theorem doesP {w : World} (hl : Lok ls) : Calls Tryz.prog 12 #[.string ⟨#[112]⟩, .string (ba (wh ls)), .string (ba (told (fun _ L => L ++ [10] ++ (L ++ [10])) 1 ls)), .int .i64 0] w fun r w' => r = .returned (.bool true) ∧ Kp [] w w' := by
  refine does_lines (ct := fun _ L => 2 * (L.length + 1)) (script_plain ⟨#[112]⟩ 112 5 (by kernel_rfl) (by kernel_rfl) (cmdAt_one (i := 21) (by kernel_rfl) (by kernel_rfl) (by kernel_rfl) (by decide +kernel) (by kernel_rfl) (by kernel_rfl) (by omega) 1) (by kernel_rfl) (by kernel_rfl) (by kernel_rfl)) hl (fun _ l _ h => by have := h.1; omega) (fun _ l _ h => by have := h.1; simp; omega) rfl (fun σ σ' hf ht => ?_)
  obtain ⟨q1, q2, q3, q4, c, q5, q6⟩ := one_facts hf ht (by omega) (by omega)
  exact ⟨q1, q2, q3, does_print q5 (by rw [q4]; kernel_rfl) q6⟩
theorem doesD {w : World} (hl : Lok ls) : Calls Tryz.prog 12 #[.string ⟨#[100]⟩, .string (ba (wh ls)), .string ⟨#[]⟩, .int .i64 0] w fun r w' => r = .returned (.bool true) ∧ Kp [] w w' := by
  refine does_lines (o := []) (tl := fun _ _ => []) (ct := fun _ _ => 0) (script_plain ⟨#[100]⟩ 100 5 (by kernel_rfl) (by kernel_rfl) (cmdAt_one (i := 12) (by kernel_rfl) (by kernel_rfl) (by kernel_rfl) (by decide +kernel) (by kernel_rfl) (by kernel_rfl) (by omega) 1) (by kernel_rfl) (by kernel_rfl) (by kernel_rfl)) hl (fun _ l _ h => by omega) (fun _ l _ h => by simp) (told_none 1 ls) (fun σ σ' hf ht => ?_)
  obtain ⟨q1, q2, q3, q4, c, q5, q6⟩ := one_facts hf ht (by omega) (by omega)
  exact ⟨q1, q2, q3, does_drop q5 q6⟩
theorem dig_le : ∀ k, k < 100 → (Lib.decDigits k).length ≤ 2 := by decide +kernel
theorem dig_dg : ∀ k, k < 100 → Lib.decDigits k = (dg k).data.toList := by decide +kernel
theorem doesEq {w : World} (hl : Lok ls) : Calls Tryz.prog 12 #[.string ⟨#[61]⟩, .string (ba (wh ls)), .string (ba (told (fun k L => Lib.decDigits k ++ [10] ++ (L ++ [10])) 1 ls)), .int .i64 0] w fun r w' => r = .returned (.bool true) ∧ Kp [] w w' := by
  refine does_lines (ct := fun k L => (Lib.decDigits k).length + 1 + (L.length + 1)) (script_plain ⟨#[61]⟩ 61 5 (by kernel_rfl) (by kernel_rfl) (cmdAt_one (i := 24) (by kernel_rfl) (by kernel_rfl) (by kernel_rfl) (by decide +kernel) (by kernel_rfl) (by kernel_rfl) (by omega) 1) (by kernel_rfl) (by kernel_rfl) (by kernel_rfl)) hl (fun k l hk h => by have := h.1; have := dig_le k hk; omega) (fun k l hk h => by have := h.1; have := dig_le k hk; simp; omega) rfl (fun σ σ' hf ht => ?_)
  obtain ⟨q1, q2, q3, q4, c, q5, q6⟩ := one_facts hf ht (by omega) (by omega)
  exact ⟨q1, q2, q3, does_number q5 (by rw [q4]; kernel_rfl) q6⟩

/-- #n, p, w x -/
abbrev wS : ByteArray := ⟨#[35, 110, 10, 112, 59, 119, 32, 120]⟩
def wT (σ σ' : Sst) : Prop := ∃ σ1, CmdT [] false 112 (fun σ cv σ' cv' => σ' = σ ∧ cv' = cv) σ σ1 ∧ ∃ σ2, CmdT [] false 119 (Named ⟨#[120]⟩) σ1 σ2 ∧ σ' = σ2
theorem w_facts {σ σ' : Sst} (hf : Fresh wS σ) (h : wT σ σ') : σ'.bs = [] ∧ σ'.gs = [] ∧ σ'.ns.length = 1 ∧ σ'.ranges = 0 ∧ σ'.quiet = qtB wS ∧ ∃ c c2, σ'.cs = [c, c2] ∧ Plain c 112 ∧ Plain c2 119 ∧ c2[7]? = some (.int .i64 ((0 : Nat) : Int)) := by
  obtain ⟨σ1, ⟨A, c, fs, σ2, cv, v, _, _, ⟨rfl, rfl⟩, rfl⟩, σ3, ⟨A', c', fs', σ4, cv', v', _, _, hN, rfl⟩, rfl⟩ := h
  rcases hN with ⟨_, v2, rfl, rfl⟩ | ⟨j, n, hfi, _, _⟩
  · refine ⟨hf.bs, hf.gs, ?_, hf.ranges, hf.quiet, cmdV (.slice A 0 c) 0 false 112, (((cmdV (.slice A' 0 c') 0 false 119).set 6 (.string ⟨#[120]⟩)).set 7 (.int .i64 (0 : Nat))), ?_, plain_cmdV A c 112, ⟨rfl, rfl, A', c', rfl⟩, rfl⟩
    · show (σ.ns ++ [_]).length = 1
      rw [hf.ns]; rfl
    · show (σ.cs ++ [cmdV (.slice A 0 c) 0 false 112]) ++ [(((cmdV (.slice A' 0 c') 0 false 119).set 6 (.string ⟨#[120]⟩)).set 7 (.int .i64 σ.ns.length))] = _
      rw [hf.cs, hf.ns]; rfl
  · exfalso
    replace hfi : Instr.findNow .string (.string ⟨#[120]⟩) (strE 0 σ.nm) 0 = some (some (j, .int .i64 n)) := hfi
    rw [hf.nm] at hfi
    injection hfi with hfi
    cases hfi
theorem script_w : Script wS wT := by
  refine ⟨by decide +kernel, ⟨2, by omega, fun w0 b => .more (n := 10) (k1 := 3) (e := 4) (by kernel_rfl) (by decide +kernel) (by omega) (cmd_one (cmdAt_one (i := 21) (by kernel_rfl) (by kernel_rfl) (by kernel_rfl) (by decide +kernel) (by kernel_rfl) (by kernel_rfl) (by omega) 4) (by kernel_rfl) (by kernel_rfl)) (cmdT_grows opR_nothing)
    (.more (n := 10) (k1 := 5) (e := 8) (by kernel_rfl) (by decide +kernel) (by omega) ((cmdAt_one (i := 11) (by kernel_rfl) (by kernel_rfl) (by kernel_rfl) (by decide +kernel) (by kernel_rfl) (by kernel_rfl) (by omega) 8).ok (op_file w0 (n := 10) (e := 8) (by kernel_rfl) (by kernel_rfl)) (opR_named _) enters_file (by kernel_rfl) (by kernel_rfl)) (cmdT_grows (opR_named _)) (.done (n := 10) (by kernel_rfl)))⟩, fun σ σ' hf e => ?_⟩
  have := w_facts hf e
  exact ⟨this.1, this.2.1⟩
theorem doesW {w : World} (hl : Lok ls) : Calls Tryz.prog 12 #[.string wS, .string (ba (wh ls)), .string (ba (wh ls)), .int .i64 0] w fun r w' => r = .returned (.bool true) ∧ Kp [] w w' := by
  refine does_lines (tl := fun _ L => L ++ [10]) (ct := fun _ L => 2 * (L.length + 1)) script_w hl (fun _ l _ h => by have := h.1; omega) (fun _ l _ h => by have := h.1; simp; omega) (told_wh 1 ls) (fun σ σ' hf ht => ?_)
  obtain ⟨_, _, h3, h4, h5, c, c2, h6, h7, h8, h9⟩ := w_facts hf ht
  refine ⟨by omega, by omega, knows_of (by rw [h6]; simp) (fun i c' hc => ?_), does_write h6 (by rw [h5]; kernel_rfl) h7 h8 h9 (by omega)⟩
  rw [h6] at hc
  match i, hc with
  | 0, hc => injection hc with hc; subst hc; exact ⟨112, by omega, by omega, .inl h7⟩
  | 1, hc => injection hc with hc; subst hc; exact ⟨119, by omega, by omega, .inl h8⟩
end
end Go.Proofs.YtonnimbcekhbgaaGreatDoor
