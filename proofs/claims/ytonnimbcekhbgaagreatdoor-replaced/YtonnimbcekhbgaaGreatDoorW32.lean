/- What the claim needs of: FQ KBToKF KEToKH. -/
import Derived.Test.YtonnimbcekhbgaaGreatDoorW28
import Derived.Test.YtonnimbcekhbgaaGreatDoorW29
import Derived.Test.YtonnimbcekhbgaaGreatDoorW02
import Derived.Test.YtonnimbcekhbgaaGreatDoorW31
import Derived.Test.YtonnimbcekhbgaaGreatDoorW23

/- FQ. -/
namespace Go.Proofs.YtonnimbcekhbgaaGreatDoor
open Go.RowKit

section
variable {σ : Sst} {ls : List (List UInt8)}

theorem knows_of (hl : σ.cs.length ≤ 2000) (h : ∀ (i : Nat) (c : List Value), σ.cs[i]? = some c → ∃ x : Nat, x ≠ 110 ∧ x ≠ 78 ∧ (Plain c x ∨ ∃ n, AtNum σ c x n)) : Knows σ false := by
  intro lo hi wx sb hs
  refine ahead_no hs hl (fun i g cap hi hv => ?_)
  obtain ⟨c, hc⟩ : ∃ c, σ.cs[i]? = some c := ⟨_, List.getElem?_eq_getElem hi⟩
  obtain ⟨g', cap', hv', hcell⟩ := hs.cmd hc
  obtain rfl : g' = g := by rw [hv] at hv'; injection hv' with e _ _; injection e with e; injection e with e; exact e.symm
  obtain ⟨x, hx1, hx2, hP | ⟨n, hA⟩⟩ := h i c hc
  · obtain ⟨A, ca, h0⟩ := hP.c0
    exact ⟨⟨A, ca, .inl (hcell 0 _ h0)⟩, x, hcell 3 _ hP.c3, hx1, hx2⟩
  · obtain ⟨p, ca, cells, h0, hm, q0, _⟩ := hA.c0
    exact ⟨⟨_, ca, .inr ⟨p, rfl, hcell 0 _ h0, cells_at (hs.fx _ hm).1 q0⟩⟩, x, hcell 3 _ hA.c3, hx1, hx2⟩

/-- The law's lines. -/
structure Lok (ls : List (List UInt8)) : Prop where
  ok : ∀ l ∈ ls, LineOk l
  len : ls.length ≤ 13
theorem Lok.line (h : Lok ls) : ∀ l ∈ ls, (10 : UInt8) ∉ l ∧ l.length ≤ 1000 := fun l hl => ⟨(h.ok l hl).no10, by have := (h.ok l hl).1; omega⟩
theorem Lok.size (h : Lok ls) : (wh ls).length ≤ 1404 := by have := wh_size ls h.ok; have := h.len; omega
theorem told_le {tl : Nat → List UInt8 → List UInt8} {N : Nat} (h : ∀ k l, k < 100 → LineOk l → (tl k l).length ≤ N) : ∀ (ls : List (List UInt8)) (k : Nat), k + ls.length ≤ 100 → (∀ l ∈ ls, LineOk l) → (told tl k ls).length ≤ N * ls.length
  | [], _, _, _ => by simp [told]
  | l :: ls, k, hk, hl => by
    rw [List.length_cons] at hk
    have h1 := h k l (by omega) (hl l (by simp))
    have h2 := told_le h ls (k + 1) (by omega) (fun l hm => hl l (by simp [hm]))
    rw [told, List.length_cons, List.length_append, Nat.mul_add]
    omega
theorem cnt_le {ct : Nat → List UInt8 → Nat} {N : Nat} (h : ∀ k l, k < 100 → LineOk l → ct k l ≤ N) : ∀ (ls : List (List UInt8)) (k : Nat), k + ls.length ≤ 100 → (∀ l ∈ ls, LineOk l) → cnt ct k ls ≤ N * ls.length
  | [], _, _, _ => by simp [cnt]
  | l :: ls, k, hk, hl => by
    rw [List.length_cons] at hk
    have h1 := h k l (by omega) (hl l (by simp))
    have h2 := cnt_le h ls (k + 1) (by omega) (fun l hm => hl l (by simp [hm]))
    rw [cnt, List.length_cons, Nat.mul_add]
    omega

/-- A script whose doing with a line is known, and all of the lines. -/
theorem does_lines {src : ByteArray} {T : Sst → Sst → Prop} {tl : Nat → List UInt8 → List UInt8} {ct : Nat → List UInt8 → Nat} {w : World} {o : List UInt8} (h : Script src T) (hl : Lok ls) (hct : ∀ k l, k < 100 → LineOk l → ct k l ≤ 1000) (htl : ∀ k l, k < 100 → LineOk l → (tl k l).length ≤ 1000) (ho : told tl 1 ls = o)
    (hT : ∀ σ σ', Fresh src σ → T σ σ' → σ'.ns.length ≤ 2000 ∧ σ'.ranges ≤ 2000 ∧ Knows σ' false ∧ Does σ' tl ct) :
    Calls Tryz.prog 12 #[.string src, .string (ba (wh ls)), .string (ba o), .int .i64 ((0 : Nat) : Int)] w fun r w' => r = .returned (.bool true) ∧ Kp [] w w' := by
  have h1 := hl.len
  have h2 := hl.size
  have h3 := cnt_le hct ls 1 (by omega) hl.ok
  have h4 := told_le htl ls 1 (by omega) hl.ok
  refine does_v (ah := false) h (by rw [ba_size]; omega) (by rw [← ho]; have := Nat.mul_le_mul_left 1000 h1; omega) (fun σ σ' hf ht => ?_)
  obtain ⟨q1, q2, q3, q4⟩ := hT σ σ' hf ht
  refine ⟨q1, q2, q3, ?_⟩
  rw [← ho]
  exact acts_whole q4 hl.line (by omega) (by have := Nat.mul_le_mul_left 1000 h1; omega) (by omega)

theorem cmdAt_one {src : ByteArray} {k x i : Nat} {f : Nat} (h1 : isA src k = false) (h2 : saw src (blk src k) 33 = false) (h3 : blk src k = k) (h4 : k < src.size) (h5 : (src[k]).toNat = x) (h6 : Instr.findNow (.int .u8) (.int .u8 x) (tabE 0 opsL) 0 = some (some (i, .func (.func f) #[] #[]))) (h7 : x ≠ 125 ∧ x ≠ 58 ∧ x ≠ 123) (k5 : Nat) : CmdAt src k (k + 1) k5 f x [] :=
  ⟨⟨k, k, ⟨h1, rfl⟩, h2, h3.symm, ⟨h4, h5⟩, rfl⟩, ⟨i, h6⟩, h7⟩

end
end Go.Proofs.YtonnimbcekhbgaaGreatDoor

/- KBToKF. -/
namespace Go.Proofs.YtonnimbcekhbgaaGreatDoor
open Go.RowKit

section
variable {w0 w w' : World} {mb sb db lo hi : Nat} {s s' : Mst} {σ : Sst}

end
end Go.Proofs.YtonnimbcekhbgaaGreatDoor

/- The machine: a command with two addresses. -/
namespace Go.Proofs.YtonnimbcekhbgaaGreatDoor
open Go.RowKit

section
variable {w0 w w' w2 : World} {mb sb db lo hi : Nat} {s s' : Mst} {σ : Sst}

/-- A command with two addresses. -/
structure AtTwo (σ : Sst) (c : List Value) (x : Nat) (nt : Bool) (i : Nat) (A B : Adr) : Prop where
  c3 : c[3]? = some (.int .u8 x)
  c2 : c[2]? = some (.bool nt)
  c1 : c[1]? = some (.int .i64 i)
  c0 : ∃ (p ca : Nat) (cells : Array Value) (va vb : List Value), c[0]? = some (.slice (some ⟨p, 0, none⟩) 2 ca) ∧ (p, Obj.cells cells 120 (0, 0)) ∈ σ.fs ∧ AdrV σ.fs A va ∧ AdrV σ.fs B vb ∧ (∀ (j : Nat) (u : Value), va[j]? = some u → cells[j]? = some u) ∧ ∀ (j : Nat) (u : Value), vb[j]? = some u → cells[4 + j]? = some u
theorem AtTwo.of {c : List Value} {x i : Nat} {nt : Bool} {A B : Adr} {v : Value} (h3 : c[3]? = some (.int .u8 x)) (h2 : c[2]? = some (.bool nt)) (h1 : c[1]? = some (.int .i64 i)) (h0 : c[0]? = some v) (hv : AdrsV σ.fs v [A, B]) : AtTwo σ c x nt i A B := by
  refine ⟨h3, h2, h1, ?_⟩
  rcases hv with ⟨q, _⟩ | ⟨p, ca, cells, rfl, hm, hc⟩
  · cases q
  · obtain ⟨va, ha, ca'⟩ := hc 0 _ rfl
    obtain ⟨vb, hb, cb'⟩ := hc 1 _ rfl
    exact ⟨p, ca, cells, va, vb, h0, hm, ha, hb, fun j u hu => by have := ca' j u hu; simpa using this, cb'⟩

/-- An address lies there. -/
def AdrW (w : World) : Adr → List Value → Prop
  | .num x, v => v = adrV 0 x
  | .last, v => v = adrV 1 0
  | .pat Q txt, v => ∃ pb, v = adrP pb txt ∧ Q pb w
theorem AdrV.here {fs : List (Nat × Obj)} {A : Adr} {v : List Value} (h : AdrV fs A v) (hw : ∀ f ∈ fs, w.heap[f.1]? = some f.2) : AdrW w A v := by
  cases A with
  | num x => exact h
  | last => exact h
  | pat Q txt =>
    obtain ⟨pb, g, o1, o2, e, h1, h2, hb⟩ := h
    exact ⟨pb, e, hb w (hw _ h1) (hw _ h2)⟩
end
end Go.Proofs.YtonnimbcekhbgaaGreatDoor

/- What the law's scripts do with its lines: kq k, and a last line without its newline. -/
namespace Go.Proofs.YtonnimbcekhbgaaGreatDoor
open Go.RowKit

section
variable {σ : Sst} {ls : List (List UInt8)}

theorem saw_at {s : ByteArray} {k : Nat} {x : Nat} (h : saw s k x = true) : ∃ hk : k < s.size, (s[k]).toNat = x := by
  unfold saw at h
  split at h
  · rename_i hk
    refine ⟨hk, ?_⟩
    simp at h
    omega
  · cases h

end
end Go.Proofs.YtonnimbcekhbgaaGreatDoor

/- What a command with two addresses does with lines; scripts of two numbers. -/
namespace Go.Proofs.YtonnimbcekhbgaaGreatDoor
open Go.RowKit

section
variable {w0 w w' : World} {mb sb db lo hi : Nat} {s s' : Mst} {σ : Sst} {ls : List (List UInt8)}

/-- No address that asks for the last line. -/
def Adr.kd : Adr → Nat
  | .num _ => 0
  | .last => 1
  | .pat _ _ => 2
theorem AdrV.kind {fs : List (Nat × Obj)} {A : Adr} {v : List Value} (h : AdrV fs A v) : v[0]? = some (.int .i64 A.kd) := by
  cases A with
  | num x => rw [show v = _ from h]; rfl
  | last => rw [show v = _ from h]; rfl
  | pat Q txt => obtain ⟨pb, g, o1, o2, e, _⟩ := h; rw [e]; rfl
end
end Go.Proofs.YtonnimbcekhbgaaGreatDoor

/- KEToKH. -/
namespace Go.Proofs.YtonnimbcekhbgaaGreatDoor
open Go.RowKit

/-- Where a pattern's slash is passed. -/
def ptN (s : ByteArray) : Nat → Nat → Option Nat
  | 0, _ => none
  | n + 1, k => if k < s.size then
      if saw s k 10 then none else if saw s k 47 then some (k + 1)
      else if saw s k 92 then (if k + 1 < s.size ∧ saw s (k + 1) 10 = false then ptN s n (k + 2) else none) else ptN s n (k + 1)
    else none
theorem ptN_le {s : ByteArray} : ∀ {n k e : Nat}, ptN s n k = some e → k < e ∧ e ≤ s.size
  | 0, _, _, h => by cases h
  | n + 1, k, e, h => by
    unfold ptN at h
    split at h
    · split at h
      · cases h
      split at h
      · injection h with h
        omega
      split at h
      · split at h
        · have := ptN_le h; omega
        · cases h
      · have := ptN_le h; omega
    · cases h

/-- A pattern of these instructions lies there. -/
abbrev PatQ (n : Nat) (bg : Int) (groups deepest : Nat) (xs : List Value) : Nat → World → Prop := fun pb w => PtR 0 w pb n bg groups deepest xs
theorem PtR.bears {B : Nat} {w : World} {p n groups deepest : Nat} {begin : Int} {xs : List Value} (h : PtR B w p n begin groups deepest xs) : ∃ g o1 o2, w.heap[p]? = some o1 ∧ w.heap[g]? = some o2 ∧ B ≤ p ∧ B ≤ g ∧ Bears (PatQ n begin groups deepest xs) p g o1 o2 := by
  obtain ⟨g, c, h1, h2⟩ := h.code
  have hg := own_lt h2 (g := g) rfl
  obtain ⟨o1, e1⟩ : ∃ o, w.heap[p]? = some o := ⟨_, Array.getElem?_eq_getElem h.lt⟩
  obtain ⟨o2, e2⟩ : ∃ o, w.heap[g]? = some o := ⟨_, Array.getElem?_eq_getElem hg.2⟩
  refine ⟨g, o1, o2, e1, e2, h.lo, hg.1, fun w2 q1 q2 => ?_⟩
  have k1 : w2.heap[p]? = w.heap[p]? := q1.trans e1.symm
  have k2 : w2.heap[g]? = w.heap[g]? := q2.trans e2.symm
  refine ⟨Nat.zero_le _, lt_blk q1, ⟨g, c, (World.cell?_of_block k1).trans h1, ownsRow_lower (own_block h2 (fun k hk => ?_)) (Nat.zero_le _)⟩, (World.cell?_of_block k1).trans h.c1, (World.cell?_of_block k1).trans h.c2, (World.cell?_of_block k1).trans h.c3⟩
  have : g = k := by simpa [Value.ownBlock] using hk
  subst this
  exact k2

theorem Tryz.szPattern : (Tryz.prog.info? 91).map (·.size) = some 2 := by kernel_rfl
section
variable {w w' : World} {b k : Nat} {src : ByteArray}

set_option maxRecDepth 100000 in
set_option maxHeartbeats 4000000 in
theorem pattern_v {m e n groups deepest : Nat} {bg : Int} {xs : List Value} (h47 : saw src k 47 = true) (hp : ptN src m (k + 1) = some e) (hl : e - 1 ≤ 100 + (k + 1)) (hn : 0 < n) (hR : Reads (src.extract 0 (e - 1)) (k + 1) groups n bg deepest xs) :
    PatOk src k e (PatQ n bg groups deepest xs) (src.extract (k + 1) (e - 1)) := by
  intro w b hr
  have hsm := hr.small
  have hlt := hr.lt
  have hle := ptN_le hp
  have H := hid hp
  have HR := hid hR
  clear hp hR
  have k1 := Kp.alloc [] w (.cells #[.pointer none, .string ⟨#[]⟩] 91)
  have BP := Bl.alloc w [.pointer none, .string ⟨#[]⟩] 91
  obtain ⟨p, hp⟩ : ∃ p, p = w.heap.size := ⟨_, rfl⟩
  obtain ⟨wt, hwp⟩ : ∃ wt, wt = w.alloc (.cells #[.pointer none, .string ⟨#[]⟩] 91) := ⟨_, rfl⟩
  have hr1 := hr.keep k1 (by simp)
  have m1 : Mv b w wt := by rw [hwp]; exact ⟨k1.mono (by simp), fun j _ => k1.cell (p := ⟨b, j, none⟩) hlt (by simp)⟩
  have hpb : p ≠ b := by omega
  rw [← hp, ← hwp] at BP
  rw [← hwp] at k1 hr1
  have hpw : p < wt.heap.size := BP.lt
  go_enter Tryz.func106, Tryz.ntmps106
  go_upto_region 1 with fail
  rw [← hp, ← hwp]
  have HP := hid hp
  clear hp hwp
  go_wp2_with fail
  refine (expect_v 47 hr1 h47).mono ?_
  rintro r w2 ⟨rfl, hr2, m2⟩
  have B2 := BP.keep m2.kp (by simpa using hpb)
  have m02 := m1.trans m2
  have c1 := hr2.c1
  clear k1 hr BP hr1 h47 m1 m2
  obtain ⟨f, hf⟩ : ∃ f, f = k + 1 := ⟨_, rfl⟩
  rw [← hf] at c1 hr2 H hle HR hl
  have HF := hid hf
  clear hf
  go_wp2_with fail
  go_loopw [14] (fun _ wr => ∃ a m, f ≤ a ∧ Cur wr b src a ∧ Hid (Mv b w wr) ∧ Hid (Bl wr p [.pointer none, .string ⟨#[]⟩]) ∧ Hid (ptN src m a = some e)) (fun _ wr => 3000 - curAt wr b)
  case atStart => exact ⟨f, m, Nat.le_refl _, hr2, hid m02, hid B2, H⟩
  case round =>
    clear hr2 m02 B2 H c1
    obtain ⟨a, m, hfa, hrr, HM, HB, HN⟩ := hrel
    have HAT := hid (curAt_of hrr)
    match m, HN with
    | 0, HN => cases HN.out
    | m + 1, HN =>
    have hN := HN.out
    have hle := ptN_le hN
    unfold ptN at hN
    clear HN
    have hk : a < src.size := by omega
    rw [if_pos hk] at hN
    cases h10 : saw src a 10
    case true => rw [h10] at hN; cases hN
    rw [h10, if_neg (by simp)] at hN
    cases h47 : saw src a 47
    case true =>
      rw [h47, if_pos rfl] at hN
      injection hN with e2
      subst e2
      have SH := hid (shut_v hrr hk h10 h47)
      clear h10 h47 hle
      go_wp2_with fail
      refine SH.out.mono ?_
      rintro r w1 ⟨rfl, h1, m1⟩
      have h1 : Cur w1 b src (a + 1) := h1
      have c1 := h1.c1
      have hkl : a ≤ src.size := by omega
      have wd := wrap_i64_nat a (by omega)
      have e1 : ((a + 1 : Nat) : Int) - 1 = (a : Int) := by omega
      obtain ⟨a1, ha1⟩ : ∃ a1, a1 = a + 1 := ⟨_, rfl⟩
      rw [← ha1] at c1 h1 e1
      have B1 := hid (HB.out.keep m1.kp (by simpa using hpb))
      have M1 := hid (HM.out.trans m1)
      have HA1 := hid ha1
      clear ha1 m1 hrr HM HB
      go_upto_region 8 with fail
      have HRR := HR.out
      rw [Nat.add_sub_cancel] at HRR
      have hsz : (src.extract 0 a).size = a := by rw [ByteArray.size_extract]; omega
      have RD := hid (read_gen (w := w1.drew) ⟨by have := h1.lt; show 0 < w1.heap.size; omega⟩ (by omega) (by omega) (by omega) hn HRR)
      have h2 := h1.drew
      have hS : (fun w' : World => w'.cell? ⟨b, 0, none⟩ = some (.string src)) w1.drew := h2.c0
      have B2 := hid (B1.out.keep (Kp.drew [] w1) (by simp))
      have M2 := hid (M1.out.trans (Mv.drew b w1))
      clear c1 HRR hsz
      refine wp_region_T (fun w' : World => w'.cell? ⟨b, 0, none⟩ = some (.string src)) 18 (by kernel_rfl) ?_
      obtain ⟨w2, hw2⟩ : ∃ w2, w2 = w1.drew := ⟨_, rfl⟩
      rw [← hw2] at hS B2 M2 h2 RD ⊢
      clear hw2 B1 M1
      refine wpAnyT_take (i := 0) (v := ?v0) rfl (by kernel_rfl) (by kernel_rfl) (by kernel_rfl) (by kernel_rfl) (fun _ _ _ h => h) (Or.inl ⟨by rfl, ?y0⟩) hS ?_
      case y0 => (intro w hSw; (try dsimp only at hSw); go_simp; (try with_reducible rfl))
      simp only [List.getElem_toArray, List.getElem_cons_zero, Act.put, List.setIfInBounds_toArray, List.set_cons_zero, List.set_cons_succ]
      refine wpAnyT_take (i := 1) (v := ?v1) rfl (by kernel_rfl) (by kernel_rfl) (by kernel_rfl) (by kernel_rfl) (fun _ _ _ h => h) (Or.inl ⟨by rfl, ?y1⟩) hS ?_
      case y1 => (intro w hSw; (try dsimp only at hSw); go_simp; (try with_reducible rfl))
      simp only [List.getElem_toArray, List.getElem_cons_succ, List.getElem_cons_zero, Act.put, List.setIfInBounds_toArray, List.set_cons_zero, List.set_cons_succ]
      refine wpAnyT_take (i := 2) (v := ?v2) rfl (by kernel_rfl) (by kernel_rfl) (by kernel_rfl) (by kernel_rfl) (fun _ _ _ h => h) (Or.inl ⟨by rfl, ?y2⟩) hS ?_
      case y2 => (intro w hSw; (try dsimp only at hSw); go_simp; (try with_reducible rfl))
      simp only [List.getElem_toArray, List.getElem_cons_succ, List.getElem_cons_zero, Act.put, List.setIfInBounds_toArray, List.set_cons_zero, List.set_cons_succ]
      refine wpAnyT_take (i := 3) (v := ?v3) rfl (by kernel_rfl) (by kernel_rfl) (by kernel_rfl) (by kernel_rfl) (fun _ _ _ h => h) (Or.inl ⟨by rfl, ?y3⟩) hS ?_
      case y3 => (intro w hSw; (try dsimp only at hSw); go_simp; (try with_reducible rfl))
      simp only [List.getElem_toArray, List.getElem_cons_succ, List.getElem_cons_zero, Act.put, List.setIfInBounds_toArray, List.set_cons_zero, List.set_cons_succ]
      refine wpAnyT_take (i := 4) (v := ?v4) rfl (by kernel_rfl) (by kernel_rfl) (by kernel_rfl) (by kernel_rfl) (fun _ _ _ h => h) (Or.inl ⟨by rfl, ?y4⟩) hS ?_
      case y4 => (intro w hSw; (try dsimp only at hSw); go_simp; (try with_reducible rfl))
      simp only [List.getElem_toArray, List.getElem_cons_succ, List.getElem_cons_zero, Act.put, List.setIfInBounds_toArray, List.set_cons_zero, List.set_cons_succ]
      refine wpAnyT_take (i := 5) (v := ?v5) rfl (by kernel_rfl) (by kernel_rfl) (by kernel_rfl) (by kernel_rfl) (fun _ _ _ h => h) (Or.inl ⟨by rfl, ?y5⟩) hS ?_
      case y5 => (intro w hSw; (try dsimp only at hSw); go_simp; (try with_reducible rfl))
      simp only [List.getElem_toArray, List.getElem_cons_succ, List.getElem_cons_zero, Act.put, List.setIfInBounds_toArray, List.set_cons_zero, List.set_cons_succ]
      refine wpAnyT_take (i := 6) (v := ?v6) rfl (by kernel_rfl) (by kernel_rfl) (by kernel_rfl) (by kernel_rfl) (fun _ _ _ h => h) (Or.inl ⟨by rfl, ?y6⟩) hS ?_
      case y6 => (intro w hSw; (try dsimp only at hSw); go_simp; (try with_reducible rfl))
      simp only [List.getElem_toArray, List.getElem_cons_succ, List.getElem_cons_zero, Act.put, List.setIfInBounds_toArray, List.set_cons_zero, List.set_cons_succ]
      refine wpAnyT_take (i := 7) (v := ?v7) rfl (by kernel_rfl) (by kernel_rfl) (by kernel_rfl) (by kernel_rfl) (fun _ _ _ h => h) (Or.inl ⟨by rfl, ?y7⟩) hS ?_
      case y7 => (intro w hSw; (try dsimp only at hSw); go_simp; (try with_reducible rfl))
      simp only [List.getElem_toArray, List.getElem_cons_succ, List.getElem_cons_zero, Act.put, List.setIfInBounds_toArray, List.set_cons_zero, List.set_cons_succ]
      refine wpAnyT_take (i := 9) (v := ?v9) rfl (by kernel_rfl) (by kernel_rfl) (by kernel_rfl) (by kernel_rfl) (fun _ _ _ h => h) (Or.inl ⟨by rfl, ?y9⟩) hS ?_
      case y9 => (intro w hSw; (try dsimp only at hSw); go_simp; (try with_reducible rfl))
      simp only [List.getElem_toArray, List.getElem_cons_succ, List.getElem_cons_zero, Act.put, List.setIfInBounds_toArray, List.set_cons_zero, List.set_cons_succ]
      refine wpAnyT_take (i := 10) (v := ?v10) rfl (by kernel_rfl) (by kernel_rfl) (by kernel_rfl) (by kernel_rfl) (fun _ _ _ h => h) (Or.inl ⟨by rfl, ?y10⟩) hS ?_
      case y10 => (intro w hSw; (try dsimp only at hSw); go_simp; (try with_reducible rfl))
      simp only [List.getElem_toArray, List.getElem_cons_succ, List.getElem_cons_zero, Act.put, List.setIfInBounds_toArray, List.set_cons_zero, List.set_cons_succ]
      refine wpAnyT_take (i := 11) (v := ?v11) rfl (by kernel_rfl) (by kernel_rfl) (by kernel_rfl) (by kernel_rfl) (fun _ _ _ h => h) (Or.inl ⟨by rfl, ?y11⟩) hS ?_
      case y11 => (intro w hSw; (try dsimp only at hSw); go_simp; (try with_reducible rfl))
      simp only [List.getElem_toArray, List.getElem_cons_succ, List.getElem_cons_zero, Act.put, List.setIfInBounds_toArray, List.set_cons_zero, List.set_cons_succ]
      refine wpAnyT_take (i := 12) (v := ?v12) rfl (by kernel_rfl) (by kernel_rfl) (by kernel_rfl) (by kernel_rfl) (fun _ _ _ h => h) (Or.inl ⟨by rfl, ?y12⟩) hS ?_
      case y12 => (intro w hSw; (try dsimp only at hSw); go_simp; (try with_reducible rfl))
      simp only [List.getElem_toArray, List.getElem_cons_succ, List.getElem_cons_zero, Act.put, List.setIfInBounds_toArray, List.set_cons_zero, List.set_cons_succ]
      refine wpAnyT_take (i := 13) (v := ?v13) rfl (by kernel_rfl) (by kernel_rfl) (by kernel_rfl) (by kernel_rfl) (fun _ _ _ h => h) (Or.inl ⟨by rfl, ?y13⟩) hS ?_
      case y13 => (intro w hSw; (try dsimp only at hSw); go_simp; (try with_reducible rfl))
      simp only [List.getElem_toArray, List.getElem_cons_succ, List.getElem_cons_zero, Act.put, List.setIfInBounds_toArray, List.set_cons_zero, List.set_cons_succ]
      refine wpAnyT_take (i := 14) (v := ?v14) rfl (by kernel_rfl) (by kernel_rfl) (by kernel_rfl) (by kernel_rfl) (fun _ _ _ h => h) (Or.inl ⟨by rfl, ?y14⟩) hS ?_
      case y14 => (intro w hSw; (try dsimp only at hSw); go_simp; (try with_reducible rfl))
      simp only [List.getElem_toArray, List.getElem_cons_succ, List.getElem_cons_zero, Act.put, List.setIfInBounds_toArray, List.set_cons_zero, List.set_cons_succ]
      refine wpAnyT_take (i := 15) (v := ?v15) rfl (by kernel_rfl) (by kernel_rfl) (by kernel_rfl) (by kernel_rfl) (fun _ _ _ h => h) (Or.inl ⟨by rfl, ?y15⟩) hS ?_
      case y15 => (intro w hSw; (try dsimp only at hSw); go_simp; (try with_reducible rfl))
      simp only [List.getElem_toArray, List.getElem_cons_succ, List.getElem_cons_zero, Act.put, List.setIfInBounds_toArray, List.set_cons_zero, List.set_cons_succ]
      refine wpAnyT_take (i := 16) (v := ?v16) rfl (by kernel_rfl) (by kernel_rfl) (by kernel_rfl) (by kernel_rfl) (fun _ _ _ h => h) (Or.inl ⟨by rfl, ?y16⟩) hS ?_
      case y16 => (intro w hSw; (try dsimp only at hSw); go_simp; (try with_reducible rfl))
      simp only [List.getElem_toArray, List.getElem_cons_succ, List.getElem_cons_zero, Act.put, List.setIfInBounds_toArray, List.set_cons_zero, List.set_cons_succ]
      refine wpAnyT_one (i := 8) (by kernel_rfl) rfl (fun K hK => ?_)
      go_simp
      refine RD.out.mono ?_
      rintro r w3 ⟨pb, rfl, pt, k3⟩
      have hS3 : (fun w' : World => w'.cell? ⟨b, 0, none⟩ = some (.string src)) w3 := (h2.keep k3 (by simp)).c0
      have h3 := h2.keep k3 (by simp)
      have B3 := hid (B2.out.keep k3 (by simp))
      have M3 : Hid (Mv b w w3) := hid (M2.out.past k3 hlt (by simp))
      have HPT := hid pt
      have HZ : Hid (w.heap.size ≤ w2.heap.size) := hid M2.out.kp.size
      have HBL := hid B2.out.lt
      clear pt k3 h2 B2 M2
      dsimp only
      refine hK.out _ _ (.inr hS3) ?_
      clear hK K
      refine wpAnyT_one (i := 17) (by kernel_rfl) rfl (fun K hK => ?_)
      go_simp
      refine hK.out _ _ (.inr hS3) ?_
      clear hK K
      refine wpAnyT_one (i := 18) (by kernel_rfl) rfl (fun K hK => ?_)
      have p0 := B3.out.at_ 0 _ rfl
      have p1 := B3.out.at_ 1 _ rfl
      have q0 := B3.out.free 0
      have q1 := B3.out.free 1
      go_simp
      refine hK.out _ _ (.inl rfl) ?_
      clear hK K p0 p1 q0 q1 hS hS3
      refine wpAnyT_done (by kernel_rfl) ?_ _
      have B4 : Bl ((w3.setCell ⟨p, 0, none⟩ (.pointer (some ⟨pb, 0, none⟩))).setCell ⟨p, 1, none⟩ (.string (src.extract f a))) p [.pointer (some ⟨pb, 0, none⟩), .string (src.extract f a)] := (B3.out.set 0 _ (by simp)).set 1 _ (by simp)
      have ks : Kp [p] w3 ((w3.setCell ⟨p, 0, none⟩ (.pointer (some ⟨pb, 0, none⟩))).setCell ⟨p, 1, none⟩ (.string (src.extract f a))) := (Kp.setCell _ _ (by simp)).trans (Kp.setCell _ _ (by simp))
      obtain ⟨w4, hw4⟩ : ∃ w4, w4 = (w3.setCell ⟨p, 0, none⟩ (.pointer (some ⟨pb, 0, none⟩))).setCell ⟨p, 1, none⟩ (.string (src.extract f a)) := ⟨_, rfl⟩
      rw [← hw4] at B4 ks ⊢
      clear hw4
      go_wp2_with fail
      obtain ⟨g, o1, o2, q1, q2, q3, q4, q5⟩ := HPT.out.bears
      have hpp : p < w2.heap.size := HBL.out
      refine bodyPost_ret (res_row (p := 2) (ty := 91) (by rw [Tryz.results106]) _ _ p 0 rfl _ _ B4.range Tryz.underlying91 rfl (by rw [Tryz.szPattern]; rfl)) rfl ⟨pb, g, o1, o2, by rw [Nat.add_sub_cancel, HF.out], (ks.block pb (lt_blk q1) (by simp; omega)).trans q1, (ks.block g (lt_blk q2) (by simp; omega)).trans q2, by have := HZ.out; omega, by have := HZ.out; omega, q5, ?_, M3.out.past ks hlt (fun q hq => by simp at hq; have := HP.out; omega)⟩
      rw [← HA1.out]
      exact h3.keep ks (by simpa using Ne.symm hpb)
    case false =>
      rw [h47, if_neg (by simp)] at hN
      cases h92 : saw src a 92
      case false =>
        rw [h92, if_neg (by simp)] at hN
        have SH := hid (shut_v hrr hk h10 h47)
        have H92 := hid h92
        have HN := hid hN
        clear h10 h47 h92 hN
        go_wp2_with fail
        refine SH.out.mono ?_
        rintro r w1 ⟨rfl, h1, m1⟩
        have h1 : Cur w1 b src a := h1
        go_wp2_with fail
        refine (take_v 92 h1 H92.out).mono ?_
        rintro r w2 ⟨rfl, h2, m2⟩
        have h2 : Cur w2 b src a := h2
        have c1 := h2.c1
        have f1 := h2.free 1
        have B2 := hid ((HB.out.keep (m1.trans m2).kp (by simpa using hpb)).keep (Kp.setCell (S := [b]) (p := ⟨b, 1, none⟩) w2 (.int .i64 ((a : Int) + 1)) (by simp)) (by simpa using hpb))
        go_wp2_with fail
        go_round
        case rel => exact ⟨a + 1, m, by omega, h2.step hk, hid (HM.out.trans ((m1.trans m2).trans (Mv.step _ _ _))), B2, HN⟩
        case measure => rw [curAt_of (h2.step hk), HAT.out]; omega
      case true =>
        rw [h92, if_pos rfl] at hN
        by_cases hk2 : a + 1 < src.size ∧ saw src (a + 1) 10 = false
        case neg => rw [if_neg hk2] at hN; cases hN
        rw [if_pos hk2] at hN
        have SH := hid (shut_v hrr hk h10 h47)
        have H92 := hid h92
        have HN := hid hN
        have HK2 := hid hk2
        clear h10 h47 h92 hN hk2
        go_wp2_with fail
        refine SH.out.mono ?_
        rintro r w1 ⟨rfl, h1, m1⟩
        have h1 : Cur w1 b src a := h1
        go_wp2_with fail
        refine (take_v 92 h1 H92.out).mono ?_
        rintro r w2 ⟨rfl, h2, m2⟩
        have h2 : Cur w2 b src (a + 1) := h2
        go_wp2_with fail
        refine (stay_v h2 HK2.out.1 HK2.out.2).mono ?_
        rintro r w3 ⟨rfl, h3, m3⟩
        have c1 := h3.c1
        have f1 := h3.free 1
        have m13 := m1.trans (m2.trans m3)
        have B2 := hid ((HB.out.keep m13.kp (by simpa using hpb)).keep (Kp.setCell (S := [b]) (p := ⟨b, 1, none⟩) w3 (.int .i64 (((a + 1 : Nat) : Int) + 1)) (by simp)) (by simpa using hpb))
        have S3 := hid (h3.step HK2.out.1)
        have HCA : Hid (curAt (w3.setCell ⟨b, 1, none⟩ (.int .i64 ((a : Int) + 1 + 1))) b = a + 1 + 1) := hid (by simpa using curAt_of S3.out)
        go_wp2_with fail
        go_round
        case rel => exact ⟨a + 1 + 1, m, by omega, S3.out, hid (HM.out.trans (m13.trans (Mv.step _ _ _))), B2, HN⟩
        case measure => rw [HCA.out, HAT.out]; omega
end
end Go.Proofs.YtonnimbcekhbgaaGreatDoor

/- The machine: whether a pattern that is a row of bytes is found in the space. -/
namespace Go.Proofs.YtonnimbcekhbgaaGreatDoor
open Go.RowKit

/-- A pattern that is a row of bytes. -/
abbrev rowP (t : List UInt8) : List Pc := pcsOf 0 0 t.length (msOf t)
abbrev rowQ (t : List UInt8) : Nat → World → Prop := fun pb w => PtR 0 w pb (1 + (rowP t).length) (rowBegin (rowP t).reverse 1 0) 0 0 (ins0 6 0 0 0 0 ++ rowCode 0 (rowP t).reverse 1 0)

section
variable {w0 w w' w2 : World} {mb sb db lo hi : Nat} {s s' : Mst} {σ : Sst}

end
end Go.Proofs.YtonnimbcekhbgaaGreatDoor

/- What the law's scripts of two addresses do with its lines. -/
namespace Go.Proofs.YtonnimbcekhbgaaGreatDoor
open Go.RowKit

section
variable {w0 w w' : World} {mb sb db lo hi : Nat} {s s' : Mst} {σ : Sst} {ls : List (List UInt8)}

theorem rowP_len (t : List UInt8) : (rowP t).length = t.length := (pcsOf_len (B := 0) (E := 0) (L := t.length) (ms := msOf t) (by omega) (by omega)).trans (by omega)
theorem row_ok (l t : List UInt8) (k b : Nat) (h1 : l.drop k = t.flatMap quote1) (h2 : k + (t.flatMap quote1).length = l.length) : RowOk b ⟨l.toArray⟩ 0 k ((rowP t).map Pc.val) := by
  have := rowOk_bytes (b := b) (g := 0) (l := l) (post := []) (vs := []) rfl t k (by rw [List.append_nil]; exact h1) (by show _ = l.toArray.size; rw [List.size_toArray]; exact h2)
  rw [vals_of]
  simpa using this
theorem pat_ok {src : ByteArray} {k e m : Nat} (l t : List UInt8) (h47 : saw src k 47 = true) (hp : ptN src m (k + 1) = some e) (hl : e - 1 ≤ 100 + (k + 1)) (hsrc : src.extract 0 (e - 1) = ⟨l.toArray⟩) (h1 : l.drop (k + 1) = t.flatMap quote1) (h2 : k + 1 + (t.flatMap quote1).length = l.length) (ht : t.length ≤ 150) : PatOk src k e (rowQ t) (src.extract (k + 1) (e - 1)) :=
  pattern_v h47 hp hl (by omega) (by rw [hsrc]; exact reads_row (by have := rowP_len t; omega) (fun b _ => row_ok l t (k + 1) b h1 h2))
end
end Go.Proofs.YtonnimbcekhbgaaGreatDoor
