/- What the claim needs of: KW KX FS. -/
import Derived.Test.YtonnimbcekhbgaaGreatDoorW46
import Derived.Test.YtonnimbcekhbgaaGreatDoorW32
import Derived.Deep.Cut
import Derived.Deep.CutRange

/- KW. -/
namespace Go.Proofs.YtonnimbcekhbgaaGreatDoor
open Go.RowKit

section
variable {w0 w : World} {ls : List (List UInt8)} {src : ByteArray} {Q : Nat → World → Prop} {txt : ByteArray} {e e0 e1 G m : Nat} {L : List UInt8} {H : List (Nat × Nat)} {g : Bool}

/-- An s begins a script. -/
def sAt (s : ByteArray) (e e0 e1 G : Nat) (L : List UInt8) (H : List (Nat × Nat)) (g : Bool) (m : Nat) : Bool :=
  !(isA s 0) && !(saw s (blk s 0) 33) && (blk s 0 == 0) && saw s 0 115 && (newN s G 30 e0 [] [] == some (L, H, e1)) && (flN s 30 e1 false 0 == some (g, m, e)) && mayEnd s (blk s e) && (blk s e == e) && (btwN s 30 0 == some 0) && (btwN s 30 e == some s.size) && decide (s.size ≤ 100) && decide (e ≤ s.size) && decide (0 < e) && !(qtB s)
abbrev sR (s : ByteArray) (e0 e1 : Nat) (Q : Nat → World → Prop) (txt : ByteArray) (L : List UInt8) (H : List (Nat × Nat)) (g : Bool) (m : Nat) : Sst → List Value → Sst → List Value → Prop := Repl Q txt (s.extract e0 (e1 - 1)) L H g m
def sT (R : Sst → List Value → Sst → List Value → Prop) (σ σ' : Sst) : Prop := ∃ σ1, CmdT [] false 115 R σ σ1 ∧ σ' = σ1
theorem script_s (hp : PatOk src 1 e0 Q txt) (hQ : ∀ pb w, Q pb w → w.cell? ⟨pb, 2, none⟩ = some (.int .i64 G)) (hG : G ≤ 9) (h : sAt src e e0 e1 G L H g m = true) : Script src (sT (sR src e0 e1 Q txt L H g m)) ∧ qtB src = false := by
  simp only [sAt, Bool.and_eq_true, beq_iff_eq, Bool.not_eq_true', decide_eq_true_eq] at h
  obtain ⟨⟨⟨⟨⟨⟨⟨⟨⟨⟨⟨⟨⟨a1, a2⟩, a3⟩, a4⟩, a5⟩, a6⟩, a7⟩, a8⟩, a9⟩, a10⟩, a11⟩, a12⟩, a13⟩, a14⟩ := h
  obtain ⟨hk, hx⟩ := saw_at (x := 115) a4
  refine ⟨⟨by omega, ⟨1, by omega, fun w0 b => .more a9 (by omega) (by omega) ((cmdAt_one (i := 8) a1 a2 a3 hk hx (by kernel_rfl) (by omega) e).ok (op_replace w0 hp hQ hG a5 a6) (opR_repl _ _ _ _ _ _ _) enters_replace a7 a8.symm) (cmdT_grows (opR_repl _ _ _ _ _ _ _)) (.done a10)⟩, fun σ σ' hf e => ?_⟩, a14⟩
  obtain ⟨σ1, ⟨A, c, fs, σ2, cv, v, _, _, ⟨pb, gb, o1, o2, v', fs', _, rfl, _⟩, rfl⟩, rfl⟩ := e
  exact ⟨hf.bs, hf.gs⟩

theorem doesS {num : Nat} {q : List UInt8 → Nat → Bool} {N : Nat} (hS : Script src (sT (sR src e0 e1 Q txt L H g num)) ∧ qtB src = false) (hl : Lok ls) (hF : FixQ Q N G q) (hN : 1 ≤ N) (hN3 : N ≤ 1000) (hG : G ≤ 9) (hq : ∀ sp a, q sp a = true → a + N ≤ sp.length) (hho : ∀ (i x h : Nat), H[i]? = some (x, h) → x ≤ L.length ∧ h ≤ G) (hO : ∀ (i x h x' h' : Nat), H[i]? = some (x, h) → H[i + 1]? = some (x', h') → x ≤ x') (hpl : L.length ≤ 2000) (hhl : H.length ≤ 50) (hnum : num ≤ 10000)
    (hp : ∀ sp a, q sp a = true → (putN L sp (ntF N a) 0 H).length ≤ 3 * N) {o : List UInt8} (ho : told (fun _ l => repT q N L H g num l ++ [10]) 1 ls = o) :
    Calls Tryz.prog 12 #[.string src, .string (ba (wh ls)), .string (ba o), .int .i64 0] w fun r w' => r = .returned (.bool true) ∧ Kp [] w w' := by
  have hlen := repT_len (all := g) (num := num) hq hp
  refine does_lines (ct := fun _ l => (repT q N L H g num l).length + 1) hS.1 hl (fun _ l _ h => by have := h.1; have := hlen l; omega) (fun _ l _ h => by have := h.1; have := hlen l; simp; omega) ho (fun σ σ' hf ht => ?_)
  obtain ⟨σ1, ⟨A, c, fs, σ2, cv, v, _, _, ⟨pb, gb, o1, o2, v', fs', _, rfl, i1, i2, brs, hol, rfl⟩, rfl⟩, rfl⟩ := ht
  have ec : ∀ x, σ.cs ++ [x] = [x] := fun x => by rw [hf.cs]; rfl
  refine ⟨by show σ.ns.length ≤ _; rw [hf.ns]; simp, by show σ.ranges ≤ _; rw [hf.ranges]; omega, knows_of ?_ ?_, does_repl (Q := Q) (L := L) (H := H) (g := g) (m := num) (ec _) (hf.quiet.trans hS.2) ?_ (becomes_fix hF hN hN3 hG hq hho hO hpl hhl hnum hp) hlen⟩
  · show (σ.cs ++ [_]).length ≤ _
    rw [ec]; simp
  · intro i c' hc
    rw [show σ.cs ++ [_] = _ from ec _] at hc
    match i, hc with
    | 0, hc => injection hc with hc; subst hc; exact ⟨115, by omega, by omega, .inl ⟨rfl, rfl, A, c, rfl⟩⟩
  · exact ⟨⟨rfl, rfl, A, c, rfl⟩, rfl, rfl, rfl, rfl, rfl, ⟨pb, gb, o1, o2, rfl, i1, i2, brs⟩, ⟨v', rfl, hol⟩⟩
end

/-- The scripts. -/
def sA (x : List UInt8) : ByteArray := ba ([115, 47] ++ x ++ [47, 60, 62, 47, 103])
def sB (x : List UInt8) : ByteArray := ba ([115, 47] ++ x ++ [47, 33, 47])
def sC (k : Nat) (x : List UInt8) : ByteArray := ba ([115, 47] ++ x ++ [47, 63, 47, (48 + k).toUInt8, 103])
def sD (x : List UInt8) : ByteArray := ba ([115, 47, 40] ++ x ++ [41, 47, 92, 49, 45, 38, 47, 103])
/-- What lies between the slashes of a row. -/
def rowAt (s : ByteArray) (x : List UInt8) : Bool := saw s 1 47 && (ptN s 20 2 == some (x.length + 3)) && (s.extract 0 (x.length + 2)).data.toList == [115, 47] ++ x && (x.flatMap quote1 == x)
def grAt (s : ByteArray) (x : List UInt8) : Bool := saw s 1 47 && (ptN s 20 2 == some (x.length + 5)) && (s.extract 0 (x.length + 4)).data.toList == [115, 47, 40] ++ x ++ [41]
def sOk (x : List UInt8) : Bool :=
  rowAt (sA x) x && sAt (sA x) (x.length + 7) (x.length + 3) (x.length + 6) 0 [60, 62] [] true 0 &&
  (rowAt (sB x) x && sAt (sB x) (x.length + 5) (x.length + 3) (x.length + 5) 0 [33] [] false 0) &&
  ([1, 2, 3, 4].all fun k => rowAt (sC k x) x && sAt (sC k x) (x.length + 7) (x.length + 3) (x.length + 5) 0 [63] [] true k) &&
  (grAt (sD x) x && sAt (sD x) (x.length + 11) (x.length + 5) (x.length + 10) 1 [45] [(0, 1), (1, 0)] true 0) && x.all lowB
theorem sOk1 : ∀ a ∈ [(97 : UInt8), 98, 99], sOk [a] = true := by decide +kernel
theorem sOk2 : ∀ a ∈ [(97 : UInt8), 98, 99], ∀ b ∈ [(97 : UInt8), 98, 99], sOk [a, b] = true := by decide +kernel
theorem sOk3 : ∀ a ∈ [(97 : UInt8), 98, 99], ∀ b ∈ [(97 : UInt8), 98, 99], ∀ c ∈ [(97 : UInt8), 98, 99], sOk [a, b, c] = true := by decide +kernel
/-- A word of the law. -/
structure Wd (x : List UInt8) : Prop where
  lo : 1 ≤ x.length
  hi : x.length ≤ 3
  ok : ∀ u ∈ x, u = 97 ∨ u = 98 ∨ u = 99
theorem Wd.sOk {x : List UInt8} (h : Wd x) : sOk x = true := by
  have hm : ∀ u ∈ x, u ∈ [(97 : UInt8), 98, 99] := fun u hu => by rcases h.ok u hu with rfl | rfl | rfl <;> decide
  have h1 := h.lo
  have h2 := h.hi
  match x, h1, h2, hm with
  | [a], _, _, hm => exact sOk1 a (hm a (by simp))
  | [a, b], _, _, hm => exact sOk2 a (hm a (by simp)) b (hm b (by simp))
  | [a, b, c], _, _, hm => exact sOk3 a (hm a (by simp)) b (hm b (by simp)) c (hm c (by simp))
  | _ :: _ :: _ :: _ :: _, _, h2, _ => simp at h2

section
variable {w : World} {ls : List (List UInt8)} {x : List UInt8}
abbrev qx (x : List UInt8) : List UInt8 → Nat → Bool := fun sp a => standsB (ba sp) (ba x) a
theorem qx_le {sp : List UInt8} {a : Nat} (h : qx x sp a = true) : a + x.length ≤ sp.length := by
  have := ((stands_iff _ _ _).1 h).1
  rwa [ba_size, ba_size] at this
/-- What stands there. -/
theorem qx_at {sp : List UInt8} {a : Nat} (h : qx x sp a = true) : (sp.take (a + x.length)).drop a = x := by
  have h0 : standsB (ba sp) (ba x) a = true := h
  unfold standsB at h0
  rw [Bool.and_eq_true, decide_eq_true_eq, toList_data, toList_data, beq_iff_eq, ByteArray.data_extract, ba_size] at h0
  have h2 := h0.2
  rw [Array.toList_extract, show (ba x).data.toList = x from ba_list x, show (ba sp).data.toList = sp from ba_list sp] at h2
  rw [List.drop_take, show a + x.length - a = x.length by omega]
  rw [List.extract_eq_take_drop, show a + x.length - a = x.length by omega] at h2
  exact h2

theorem rowAt_pat {s : ByteArray} (h : rowAt s x = true) (hx : x.length ≤ 3) : PatOk s 1 (x.length + 3) (rowQ x) (s.extract 2 (x.length + 2)) := by
  simp only [rowAt, Bool.and_eq_true, beq_iff_eq] at h
  obtain ⟨⟨⟨a1, a2⟩, a3⟩, a4⟩ := h
  refine pat_ok (m := 20) ([115, 47] ++ x) x a1 a2 (by omega) ?_ ?_ ?_ (by omega)
  · show s.extract 0 (x.length + 2) = _
    rw [← a3]
  · rw [a4]; rfl
  · rw [a4]; simp; omega
theorem grAt_pat {s : ByteArray} (h : grAt s x = true) (hx : x.length ≤ 3) (hlow : ∀ c ∈ x, lowB c = true) : PatOk s 1 (x.length + 5) (grQ x) (s.extract 2 (x.length + 4)) := by
  simp only [grAt, Bool.and_eq_true, beq_iff_eq] at h
  obtain ⟨⟨a1, a2⟩, a3⟩ := h
  refine pat_gr (m := 20) (by omega) hlow a1 a2 (by omega) ?_
  show Sf (s.extract 0 (x.length + 4)).data.toList 2 _
  rw [a3]
  exact ⟨rfl, by simp; omega⟩

abbrev rA (x l : List UInt8) : List UInt8 := repT (qx x) x.length [60, 62] [] true 0 l
abbrev rB (x l : List UInt8) : List UInt8 := repT (qx x) x.length [33] [] false 0 l
abbrev rC (k : Nat) (x l : List UInt8) : List UInt8 := repT (qx x) x.length [63] [] true k l
abbrev rD (x l : List UInt8) : List UInt8 := repT (qx x) x.length [45] [(0, 1), (1, 0)] true 0 l
theorem rowQ_2 (x : List UInt8) (pb : Nat) (w : World) (h : rowQ x pb w) : w.cell? ⟨pb, 2, none⟩ = some (.int .i64 ((0 : Nat) : Int)) := h.c2
theorem grQ_2 (x : List UInt8) (pb : Nat) (w : World) (h : grQ x pb w) : w.cell? ⟨pb, 2, none⟩ = some (.int .i64 ((1 : Nat) : Int)) := h.c2

theorem parts (h : Wd x) : (rowAt (sA x) x = true ∧ sAt (sA x) (x.length + 7) (x.length + 3) (x.length + 6) 0 [60, 62] [] true 0 = true) ∧ (rowAt (sB x) x = true ∧ sAt (sB x) (x.length + 5) (x.length + 3) (x.length + 5) 0 [33] [] false 0 = true) ∧
    (∀ k, 1 ≤ k → k ≤ 4 → rowAt (sC k x) x = true ∧ sAt (sC k x) (x.length + 7) (x.length + 3) (x.length + 5) 0 [63] [] true k = true) ∧ (grAt (sD x) x = true ∧ sAt (sD x) (x.length + 11) (x.length + 5) (x.length + 10) 1 [45] [(0, 1), (1, 0)] true 0 = true) ∧ ∀ c ∈ x, lowB c = true := by
  have := h.sOk
  simp only [Go.Proofs.YtonnimbcekhbgaaGreatDoor.sOk, Bool.and_eq_true, List.all_eq_true] at this
  obtain ⟨⟨⟨⟨h1, h2⟩, h3⟩, h4⟩, h5⟩ := this
  exact ⟨h1, h2, fun k k1 k2 => h3 k (by have : k = 1 ∨ k = 2 ∨ k = 3 ∨ k = 4 := by omega
                                         rcases this with rfl | rfl | rfl | rfl <;> simp), h4, h5⟩

theorem sdoesA (h : Wd x) (hl : Lok ls) {o : List UInt8} (ho : told (fun _ l => rA x l ++ [10]) 1 ls = o) : Calls Tryz.prog 12 #[.string (sA x), .string (ba (wh ls)), .string (ba o), .int .i64 0] w fun r w' => r = .returned (.bool true) ∧ Kp [] w w' := by
  obtain ⟨⟨h1, h2⟩, _⟩ := parts h
  have := h.lo
  have := h.hi
  exact doesS (script_s (rowAt_pat h1 h.hi) (rowQ_2 x) (by omega) h2) hl (fixQ_row (by omega) h.lo) h.lo (by omega) (by omega) (fun _ _ => qx_le) (fun i x h hh => by simp at hh) (fun i x h _ _ hh => by simp at hh) (by simp) (by simp) (by omega) (fun _ _ _ => by simp [putN]; omega) ho
theorem sdoesB (h : Wd x) (hl : Lok ls) {o : List UInt8} (ho : told (fun _ l => rB x l ++ [10]) 1 ls = o) : Calls Tryz.prog 12 #[.string (sB x), .string (ba (wh ls)), .string (ba o), .int .i64 0] w fun r w' => r = .returned (.bool true) ∧ Kp [] w w' := by
  obtain ⟨_, ⟨h1, h2⟩, _⟩ := parts h
  have := h.lo
  have := h.hi
  exact doesS (script_s (rowAt_pat h1 h.hi) (rowQ_2 x) (by omega) h2) hl (fixQ_row (by omega) h.lo) h.lo (by omega) (by omega) (fun _ _ => qx_le) (fun i x h hh => by simp at hh) (fun i x h _ _ hh => by simp at hh) (by simp) (by simp) (by omega) (fun _ _ _ => by simp [putN]; omega) ho
theorem sdoesC (h : Wd x) {k : Nat} (k1 : 1 ≤ k) (k2 : k ≤ 4) (hl : Lok ls) {o : List UInt8} (ho : told (fun _ l => rC k x l ++ [10]) 1 ls = o) : Calls Tryz.prog 12 #[.string (sC k x), .string (ba (wh ls)), .string (ba o), .int .i64 0] w fun r w' => r = .returned (.bool true) ∧ Kp [] w w' := by
  obtain ⟨_, _, h3, _⟩ := parts h
  obtain ⟨h1, h2⟩ := h3 k k1 k2
  have := h.lo
  have := h.hi
  exact doesS (script_s (rowAt_pat h1 h.hi) (rowQ_2 x) (by omega) h2) hl (fixQ_row (by omega) h.lo) h.lo (by omega) (by omega) (fun _ _ => qx_le) (fun i x h hh => by simp at hh) (fun i x h _ _ hh => by simp at hh) (by simp) (by simp) (by omega) (fun _ _ _ => by simp [putN]; omega) ho
theorem putD {sp : List UInt8} {a : Nat} (h : qx x sp a = true) : putN [45] sp (ntF x.length a) 0 [(0, 1), (1, 0)] = x ++ [45] ++ x := by
  have e := qx_at h
  have e1 : ntF x.length a 3 = a + x.length := ntF_odd _ _ 1
  have e2 : ntF x.length a 2 = a := ntF_even _ _ 1
  have e3 : ntF x.length a 1 = a + x.length := ntF_odd _ _ 0
  have e4 : ntF x.length a 0 = a := ntF_even _ _ 0
  show [] ++ ((sp.take (ntF x.length a 3)).drop (ntF x.length a 2) ++ ([45] ++ ((sp.take (ntF x.length a 1)).drop (ntF x.length a 0) ++ []))) = _
  rw [e1, e2, e3, e4, e]
  simp
theorem sdoesD (h : Wd x) (hl : Lok ls) {o : List UInt8} (ho : told (fun _ l => rD x l ++ [10]) 1 ls = o) : Calls Tryz.prog 12 #[.string (sD x), .string (ba (wh ls)), .string (ba o), .int .i64 0] w fun r w' => r = .returned (.bool true) ∧ Kp [] w w' := by
  obtain ⟨_, _, _, ⟨h1, h2⟩, h5⟩ := parts h
  have := h.lo
  have := h.hi
  refine doesS (script_s (grAt_pat h1 h.hi h5) (grQ_2 x) (by omega) h2) hl (fixQ_gr (by omega) h.lo) h.lo (by omega) (by omega) (fun _ _ => qx_le) (fun i x h hh => ?_) (fun i x h x' h' hh hh' => ?_) (by simp) (by simp) (by omega) (fun sp a ha => by rw [putD ha]; simp; omega) ho
  · match i, hh with
    | 0, hh => injection hh with hh; injection hh with e1 e2; subst e1 e2; simp
    | 1, hh => injection hh with hh; injection hh with e1 e2; subst e1 e2; simp
  · match i, hh, hh' with
    | 0, hh, hh' => injection hh with hh; injection hh with e1 e2; subst e1 e2; omega
    | 1, hh, hh' => cases hh'

/-- What the law tells of a line. -/
def fA (_ : Nat) : List UInt8 := [60, 62]
def fB (x : List UInt8) (i : Nat) : List UInt8 := if i = 0 then [33] else x
def fC (k : Nat) (x : List UInt8) (i : Nat) : List UInt8 := if k ≤ i + 1 then [63] else x
def fD (x : List UInt8) (_ : Nat) : List UInt8 := x ++ [45] ++ x
abbrev px (x sp : List UInt8) : List Nat := plcs (qx x) x.length sp
theorem px_q {sp : List UInt8} {i a : Nat} (h : (px x sp)[i]? = some a) : qx x sp a = true := plcs_q (List.mem_of_getElem? h)
theorem lawA (sp : List UInt8) : lawT sp x.length fA (px x sp) = rA x sp :=
  law_is (plcs_asc sp) (fun _ ha => qx_le (plcs_q ha)) (fun _ _ _ _ _ => rfl) (fun i a h hh => by
    have : i < (plcs (qx x) x.length sp).length := (List.getElem?_eq_some_iff.1 h).1
    simp at hh; omega)
theorem lawB (sp : List UInt8) : lawT sp x.length (fB x) (px x sp) = rB x sp :=
  law_is (plcs_asc sp) (fun _ ha => qx_le (plcs_q ha)) (fun i _ _ hn _ => by simp at hn; unfold fB; rw [if_pos hn]; rfl) (fun i a h hh => by
    simp at hh
    unfold fB
    rw [if_neg (by omega), qx_at (px_q h)])
theorem lawC {k : Nat} (sp : List UInt8) : lawT sp x.length (fC k x) (px x sp) = rC k x sp :=
  law_is (plcs_asc sp) (fun _ ha => qx_le (plcs_q ha)) (fun i _ _ _ hn => by unfold fC; rw [if_pos (by omega)]; rfl) (fun i a h hh => by
    have : i < (plcs (qx x) x.length sp).length := (List.getElem?_eq_some_iff.1 h).1
    simp at hh
    unfold fC
    rw [if_neg (by omega), qx_at (px_q h)])
theorem lawD (sp : List UInt8) : lawT sp x.length (fD x) (px x sp) = rD x sp :=
  law_is (plcs_asc sp) (fun _ ha => qx_le (plcs_q ha)) (fun i a h _ _ => (putD (px_q h)).symm) (fun i a h hh => by
    have : i < (plcs (qx x) x.length sp).length := (List.getElem?_eq_some_iff.1 h).1
    simp at hh; omega)
end
end Go.Proofs.YtonnimbcekhbgaaGreatDoor

/- KX. -/
namespace Go.Proofs.YtonnimbcekhbgaaGreatDoor
open Go.RowKit

section
variable {x sp : List UInt8} {f : Nat → List UInt8} {c fr a : Nat} {acc : List UInt8}
/-- Up to where the law has come: so many places, up to here, and what it has told. -/
def Lp (x sp : List UInt8) (f : Nat → List UInt8) (c fr : Nat) (acc : List UInt8) : Prop :=
  ∃ K, sp.length + 1 ≤ K + fr ∧ lawR sp x.length f c (occs (qx x sp) (sp.length + 1) x.length K fr) (fr, acc) = lawR sp x.length f 0 (px x sp) (0, [])
theorem Lp.start : Lp x sp f 0 0 [] := ⟨sp.length + 1, by omega, rfl⟩
theorem Lp.step (hx : 1 ≤ x.length) (h : Lp x sp f c fr acc) (hn : nextO (qx x sp) (sp.length + 1) fr = some a) : Lp x sp f (c + 1) (a + x.length) (acc ++ (sp.take a).drop fr ++ f c) := by
  obtain ⟨K, hK, e⟩ := h
  obtain ⟨h1, h2, h3, h4⟩ := nextO_some hn
  match K, hK, e with
  | 0, hK, _ => omega
  | K + 1, hK, e =>
    unfold occs at e
    rw [hn] at e
    exact ⟨K, by omega, e⟩
theorem Lp.done (h : Lp x sp f c fr acc) (hn : nextO (qx x sp) (sp.length + 1) fr = none) : lawT sp x.length f (px x sp) = acc ++ sp.drop fr := by
  obtain ⟨K, hK, e⟩ := h
  have : occs (qx x sp) (sp.length + 1) x.length K fr = [] := by
    cases K with
    | zero => rfl
    | succ K => unfold occs; rw [hn]
  rw [this] at e
  unfold lawT
  rw [← e]
  rfl

theorem stands_next (hl : sp.length ≤ 1000) (ht : x.length ≤ 1000) (fr : Nat) (hf : fr ≤ 1000) (w : World) : Calls Tryz.prog 13 #[.string (ba sp), .string (ba x), .int .i64 fr] w fun e w' => Kp [] w w' ∧
    ((∃ a : Nat, nextO (qx x sp) (sp.length + 1) fr = some a ∧ e = .returned (.int .i64 a)) ∨ (nextO (qx x sp) (sp.length + 1) fr = none ∧ e = .returned (.int .i64 (-1)))) := by
  refine (stands_any (s := ba sp) (v := ba x) (by rw [ba_size]; omega) (by rw [ba_size]; omega) fr (by omega) w).mono ?_
  rintro e w' ⟨k, ⟨i, hfi, he, hi, hn⟩ | ⟨he, hn⟩⟩
  · refine ⟨k, ?_⟩
    have hle := qx_le (x := x) (sp := sp) hi
    cases h : nextO (qx x sp) (sp.length + 1) fr with
    | none =>
      have := nextO_none h i hfi (by omega)
      rw [show qx x sp i = true from hi] at this
      cases this
    | some b =>
      obtain ⟨h1, h2, h3, h4⟩ := nextO_some h
      have : b = i := by
        rcases Nat.lt_trichotomy b i with q | q | q
        · rw [show qx x sp b = false from hn b h1 q] at h3; cases h3
        · exact q
        · have := h4 i hfi q
          rw [show qx x sp i = true from hi] at this; cases this
      subst this
      exact .inl ⟨_, rfl, he⟩
  · refine ⟨k, ?_⟩
    cases h : nextO (qx x sp) (sp.length + 1) fr with
    | none => exact .inr ⟨rfl, he⟩
    | some b =>
      obtain ⟨h1, h2, h3, h4⟩ := nextO_some h
      rw [show qx x sp b = false from hn b h1] at h3
      cases h3
end
end Go.Proofs.YtonnimbcekhbgaaGreatDoor

/- FS. -/
namespace Go.Proofs.YtonnimbcekhbgaaGreatDoor
open Go.RowKit

theorem told_snoc (tl : Nat → List UInt8 → List UInt8) (k : Nat) (a : List (List UInt8)) (l : List UInt8) : told tl k (a ++ [l]) = told tl k a ++ tl (k + a.length) l := by
  induction a generalizing k with
  | nil => simp [told]
  | cons x a ih => rw [List.cons_append, told, ih, told, List.append_assoc, List.length_cons, show k + 1 + a.length = k + (a.length + 1) by omega]

theorem Lns.lok {lo : Nat} {w : World} {v : Value} {ls : List (List UInt8)} (h : Lns lo w v ls) (hn : ls.length ≤ 13) : Lok ls := ⟨h.ok, hn⟩
/-- Some of the lines, from the first on. -/
theorem Lns.take {lo : Nat} {w : World} {A : Option Addr} {n c k : Nat} {ls : List (List UInt8)} (h : Lns lo w (.slice A n c) ls) (hk : k ≤ ls.length) (h0 : 0 < k) : Lns lo w (.slice A k c) (ls.take k) := by
  refine ⟨⟨by rw [List.length_map, Nat.mul_one], ?_⟩, fun l hl => h.ok l (List.mem_of_mem_take hl)⟩
  rcases h.own.2 with ⟨e, e2⟩ | ⟨g, cap, cur, e, q2, q3, q4, q5, q6, q7⟩
  · omega
  · injection e with e1 e2 e3
    subst e1 e3
    have hl : (ls.take k).length = k := by rw [List.length_take]; omega
    refine .inr ⟨g, c, cur, by rw [hl], q2, q3, by rw [hl]; omega, q5, q6, ?_⟩
    rw [hl, List.map_take, ← q7, List.take_take]
    congr 1
    omega
theorem Lns.cap {lo : Nat} {w : World} {A : Option Addr} {n c : Nat} {ls : List (List UInt8)} (h : Lns lo w (.slice A n c) ls) : ls.length ≤ c := by
  rcases h.own.2 with ⟨e, e2⟩ | ⟨g, cap, cur, e, q2, q3, q4, q5, q6, q7⟩
  · omega
  · injection e with e1 e2 e3
    omega
end Go.Proofs.YtonnimbcekhbgaaGreatDoor
