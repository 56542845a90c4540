/- One text out of several: KB KD FR KF. -/
import Derived.Test.YtonnimbcekhbgaaGreatDoorFQ
import Derived.Test.YtonnimbcekhbgaaGreatDoorKC

/- What a script does with lines, where it hangs on the lines ahead: which ranges go on, and what is held. -/
namespace Go.Proofs.YtonnimbcekhbgaaGreatDoor
open Go.RowKit

section
variable {w0 w w' : World} {mb sb db lo hi : Nat} {s s' : Mst} {σ : Sst}

/-- What a script does with a line behind the lines A, where I tells what goes on and what is held. -/
def DoesP (σ : Sst) (I : List (List UInt8) → List Bool → ByteArray → Prop) (tl : List (List UInt8) → List UInt8 → List UInt8) (ct : List (List UInt8) → List UInt8 → Nat) : Prop :=
  ∀ (w0 : World) (mb sb db lo hi : Nat), Scr lo hi w0 sb 0 σ → ∀ p A L, Beg σ.ns.length p (A.length + 1) L → I A p.rg p.held → A.length < 99 → L.length ≤ 1000 → p.count + ct A L ≤ 190000 →
    ∃ p', Looks w0 mb sb db p p' ∧ Cyc σ.ns.length p p' (tl A L) (ct A L) ∧ I (A ++ [L]) p'.rg p'.held

def toldP (tl : List (List UInt8) → List UInt8 → List UInt8) : List (List UInt8) → List (List UInt8) → List UInt8
  | _, [] => []
  | A, l :: ls => tl A l ++ toldP tl (A ++ [l]) ls
def cntP (ct : List (List UInt8) → List UInt8 → Nat) : List (List UInt8) → List (List UInt8) → Nat
  | _, [] => 0
  | A, l :: ls => ct A l + cntP ct (A ++ [l]) ls

theorem run_linesP {I : List (List UInt8) → List Bool → ByteArray → Prop} {tl : List (List UInt8) → List UInt8 → List UInt8} {ct : List (List UInt8) → List UInt8 → Nat} (hd : DoesP σ I tl ct) (hs : Scr lo hi w0 sb 0 σ) :
    ∀ (ls A : List (List UInt8)), (∀ l ∈ ls, (10 : UInt8) ∉ l ∧ l.length ≤ 1000) → ∀ p, Btw σ.ns.length p → I A p.rg p.held → p.left = ba (wh ls) → p.number = A.length → A.length + ls.length < 100 → p.count + cntP ct A ls ≤ 190000 → (wh ls).length ≤ 90000 →
      ∃ n p', RunP w0 mb sb db n p p' ∧ Btw σ.ns.length p' ∧ p'.left = ba [] ∧ p'.ended = p.ended ∧ p'.out = p.out ++ toldP tl A ls
  | [], A, _, p, hb, _, hl, _, _, _, _ => ⟨0, p, run_dry (L := []) hb hl (by simp) (by simp) (.inr rfl), hb, hl, rfl, by simp [toldP]⟩
  | l :: ls, A, hls, p, hb, hI, hl, hn, hlt, hc, h9 => by
    have e : wh (l :: ls) = l ++ 10 :: wh ls := by simp [wh]
    rw [e] at hl h9
    rw [List.length_append, List.length_cons] at h9
    rw [List.length_cons] at hlt
    have hl1 := hls l (by simp)
    have hbeg := hb.beg l (wh ls)
    rw [hn] at hbeg
    simp only [cntP] at hc
    obtain ⟨q, hlk, hcy, hI'⟩ := hd w0 mb sb db lo hi hs _ A _ hbeg hI (by omega) hl1.2 (by show p.count + ct A l ≤ _; omega)
    have qn : q.number = A.length + 1 := hcy.number.trans (by show p.number + 1 = _; rw [hn])
    have qc : q.count = p.count + ct A l := hcy.count
    have qo : q.out = p.out ++ tl A l := hcy.out
    have qe : q.ended = p.ended := hcy.ended
    obtain ⟨n, p', hr, b', l', e', o'⟩ := run_linesP hd hs ls (A ++ [l]) (fun l hl => hls l (by simp [hl])) q hcy.btw hI' hcy.left (by rw [qn, List.length_append]; rfl) (by rw [List.length_append]; simp; omega) (by rw [qc]; omega) (by omega)
    obtain ⟨m, hm⟩ := RunP.cycle hb.over (sup_line hb hl hl1.1 hl1.2 (by omega) (by omega)) hlk hr
    exact ⟨m, p', hm, b', l', e'.trans qe, by rw [o', qo, toldP, List.append_assoc]⟩

theorem acts_wholeP {I : List (List UInt8) → List Bool → ByteArray → Prop} {tl : List (List UInt8) → List UInt8 → List UInt8} {ct : List (List UInt8) → List UInt8 → Nat} {ls : List (List UInt8)} (hd : DoesP σ I tl ct) (h0 : I [] (List.replicate σ.ranges false) ⟨#[]⟩) (hls : ∀ l ∈ ls, (10 : UInt8) ∉ l ∧ l.length ≤ 1000) (hn : ls.length < 99) (hc : cntP ct [] ls ≤ 190000) (h9 : (wh ls).length ≤ 90000) : Acts σ false (ba (wh ls)) (toldP tl [] ls) 0 := by
  intro w0 mb sb db lo hi hs
  obtain ⟨n, p', hr, b', l', e', o'⟩ := run_linesP (mb := mb) (db := db) hd hs ls [] hls ({ pst0 false σ.ns.length σ.ranges with left := ba (wh ls) } : Pst) ⟨rfl, rfl, rfl, rfl, rfl, rfl, Nat.le_refl _, fbs0 _ _ _ _⟩ h0 rfl rfl (by show 0 + ls.length < 100; omega) (by show 0 + cntP ct [] ls ≤ _; omega) h9
  refine ⟨n, p', hr, by rw [l', ba_size]; simp, b'.err, .inr ⟨b'.over, 0, _, run_dry (p := { p'.replied with ended := true }) (L := []) ⟨b'.wants, b'.over, b'.err, b'.status, b'.ahead, b'.br, Nat.zero_le _, b'.fb.up rfl (Nat.le_refl _)⟩ ?_ (by simp) (by simp) (.inr rfl), ?_, b'.err, b'.status, ?_⟩⟩
  · show (if p'.over then (⟨#[]⟩ : ByteArray) else p'.left) = _
    rw [b'.over, l']; rfl
  · show (if p'.over then (⟨#[]⟩ : ByteArray) else p'.left).size ≤ _
    rw [b'.over, l']
    show (ba []).size ≤ _
    rw [ba_size]; simp
  · rw [o']
    show ([] ++ toldP tl [] ls) ++ [] = _
    simp

theorem toldP_le {tl : List (List UInt8) → List UInt8 → List UInt8} {N : Nat} (h : ∀ A l, LineOk l → (tl A l).length ≤ N) : ∀ (ls A : List (List UInt8)), (∀ l ∈ ls, LineOk l) → (toldP tl A ls).length ≤ N * ls.length
  | [], _, _ => by simp [toldP]
  | l :: ls, A, hl => by
    have h1 := h A l (hl l (by simp))
    have h2 := toldP_le h ls (A ++ [l]) (fun l hm => hl l (by simp [hm]))
    rw [toldP, List.length_cons, List.length_append, Nat.mul_add]
    omega
theorem cntP_le {ct : List (List UInt8) → List UInt8 → Nat} {N : Nat} (h : ∀ A l, LineOk l → ct A l ≤ N) : ∀ (ls A : List (List UInt8)), (∀ l ∈ ls, LineOk l) → cntP ct A ls ≤ N * ls.length
  | [], _, _ => by simp [cntP]
  | l :: ls, A, hl => by
    have h1 := h A l (hl l (by simp))
    have h2 := cntP_le h ls (A ++ [l]) (fun l hm => hl l (by simp [hm]))
    rw [cntP, List.length_cons, Nat.mul_add]
    omega
theorem toldP_snoc (tl : List (List UInt8) → List UInt8 → List UInt8) (A a : List (List UInt8)) (l : List UInt8) : toldP tl A (a ++ [l]) = toldP tl A a ++ tl (A ++ a) l := by
  induction a generalizing A with
  | nil => simp [toldP]
  | cons x a ih => rw [List.cons_append, toldP, ih, toldP, List.append_assoc, List.append_assoc]; rfl

/-- A script whose doing with a line is known, and all of the lines. -/
theorem does_linesP {src : ByteArray} {T : Sst → Sst → Prop} {I : Sst → List (List UInt8) → List Bool → ByteArray → Prop} {tl : List (List UInt8) → List UInt8 → List UInt8} {ct : List (List UInt8) → List UInt8 → Nat} {ls : List (List UInt8)} {w : World} {o : List UInt8} (h : Script src T) (hl : Lok ls) (hct : ∀ A l, LineOk l → ct A l ≤ 1000) (htl : ∀ A l, LineOk l → (tl A l).length ≤ 1000) (ho : toldP tl [] ls = o)
    (hT : ∀ σ σ', Fresh src σ → T σ σ' → σ'.ns.length ≤ 2000 ∧ σ'.ranges ≤ 2000 ∧ Knows σ' false ∧ I σ' [] (List.replicate σ'.ranges false) ⟨#[]⟩ ∧ DoesP σ' (I σ') tl ct) :
    Calls Tryz.prog 12 #[.string src, .string (ba (wh ls)), .string (ba o), .int .i64 ((0 : Nat) : Int)] w fun r w' => r = .returned (.bool true) ∧ Kp [] w w' := by
  have h1 := hl.len
  have h2 := hl.size
  have h3 := cntP_le hct ls [] hl.ok
  have h4 := toldP_le htl ls [] hl.ok
  refine does_v (ah := false) h (by rw [ba_size]; omega) (by rw [← ho]; have := Nat.mul_le_mul_left 1000 h1; omega) (fun σ σ' hf ht => ?_)
  obtain ⟨q1, q2, q3, q4, q5⟩ := hT σ σ' hf ht
  refine ⟨q1, q2, q3, ?_⟩
  rw [← ho]
  exact acts_wholeP q5 q4 hl.line (by omega) (by have := Nat.mul_le_mul_left 1000 h1; omega) (by omega)
end
end Go.Proofs.YtonnimbcekhbgaaGreatDoor

/- The machine: a command with two addresses. -/
namespace Go.Proofs.YtonnimbcekhbgaaGreatDoor
open Go.RowKit

section
variable {w0 w w' w2 : World} {mb sb db lo hi : Nat} {s s' : Mst} {σ : Sst}

set_option maxRecDepth 100000 in
set_option maxHeartbeats 1000000 in
/-- A command that need not know what comes behind: none of its addresses asks for the last line; neither n nor N. -/
theorem aheadC_any {g o p n c x : Nat} (h0 : w.cell? ⟨g, o, none⟩ = some (.slice (some ⟨p, 0, none⟩) n c)) (hn : n ≤ 2) (hk : ∀ j, j < n → ∃ kd : Nat, kd ≠ 1 ∧ w.cell? ⟨p, 4 * j, none⟩ = some (.int .i64 kd)) (h3 : w.cell? ⟨g, o + 3, none⟩ = some (.int .u8 x)) (hx1 : x ≠ 110) (hx2 : x ≠ 78) :
    Calls Tryz.prog 59 #[.pointer (some ⟨g, o, none⟩)] w fun r w' => r = .returned (.bool false) ∧ w' = w := by
  have g1 : ((x : Int) == 110) = false := by rw [beq_eq_false_iff_ne]; omega
  have g2 : ((x : Int) == 78) = false := by rw [beq_eq_false_iff_ne]; omega
  have HK := hid hk
  clear hk
  go_enter Tryz.func59, Tryz.ntmps59
  go_wp2_with fail
  go_loopw [9, 3] (fun v _ wr => ∃ k : Nat, k ≤ n ∧ v = .int .i64 k ∧ wr = w) (fun v _ _ => 3000 - (intOf v).toNat)
  case atStart => exact ⟨0, by omega, rfl, rfl⟩
  case round =>
    obtain ⟨k, hk, rfl, rfl⟩ := hrel
    by_cases hkn : k < n
    · obtain ⟨kd, hkd, hc⟩ := HK.out k hkn
      have g3 : ((kd : Int) == 1) = false := by rw [beq_eq_false_iff_ne]; omega
      obtain ⟨k1, hk1⟩ : ∃ k1 : Nat, k1 = k + 1 := ⟨_, rfl⟩
      have wr := wrap_i64_succ k k1 hk1 (by omega)
      have HK1 := hid hk1
      have hc2 := hc
      rw [Nat.mul_comm] at hc2
      clear hk1
      go_wp2_with fail
      go_round
      case rel => exact ⟨k1, by have := HK1.out; omega, by trivial, by trivial⟩
      case measure => have := HK1.out; simp [intOf]; omega
    · have hkk : k = n := by omega
      subst hkk
      go_wp2_with fail
      go_ret
      exact ⟨rfl, rfl⟩

set_option maxRecDepth 100000 in
set_option maxHeartbeats 1000000 in
theorem ahead_of (hs : Scr lo hi w sb 0 σ) (hl : σ.cs.length ≤ 2000) (hc : ∀ i g cap, i < σ.cs.length → σ.vc = .slice (some ⟨g, 0, none⟩) σ.cs.length cap → Calls Tryz.prog 59 #[.pointer (some ⟨g, i * 23, none⟩)] w fun r w' => r = .returned (.bool false) ∧ w' = w) :
    Calls Tryz.prog 28 #[.pointer (some ⟨sb, 0, none⟩)] w fun r w' => r = .returned (.bool false) ∧ w' = w := by
  obtain ⟨A, c, e, hA, hA2⟩ := own_form hs.o4
  have c1 := hs.c1
  rw [e] at c1
  have HC := hid hc
  have HE := hid e
  have HA := hid (And.intro hA hA2)
  clear hc e hA hA2
  obtain ⟨n, hn⟩ : ∃ n, n = σ.cs.length := ⟨_, rfl⟩
  rw [← hn] at c1 hl
  have HN := hid hn
  clear hn
  go_enter Tryz.func28, Tryz.ntmps28
  go_wp2_with fail
  go_loopw [9] (fun v wr => ∃ k : Nat, k ≤ n ∧ v = .int .i64 k ∧ wr = w) (fun v _ => 3000 - (intOf v).toNat)
  case atStart => exact ⟨0, by omega, rfl, rfl⟩
  case round =>
    obtain ⟨k, hk, rfl, rfl⟩ := hrel
    by_cases hkn : k < n
    · obtain ⟨g, rfl⟩ : ∃ g, A = some ⟨g, 0, none⟩ := by
        cases hA : A with
        | none => have := HA.out.1 hA; have := HN.out; omega
        | some ad =>
          obtain ⟨g, hg⟩ := HA.out.2 ad hA
          exact ⟨g, by rw [hg]⟩
      have HNA := hid (HC.out k g c (by rw [← HN.out]; exact hkn) HE.out)
      obtain ⟨k1, hk1⟩ : ∃ k1 : Nat, k1 = k + 1 := ⟨_, rfl⟩
      have wr := wrap_i64_succ k k1 hk1 (by omega)
      have HK1 := hid hk1
      clear hk1
      go_wp2_with fail
      refine HNA.out.mono ?_
      rintro r w1 ⟨rfl, rfl⟩
      go_wp2_with fail
      go_round
      case rel => exact ⟨k1, by have := HK1.out; omega, by trivial, by trivial⟩
      case measure => have := HK1.out; simp [intOf]; omega
    · have hkk : k = n := by omega
      subst hkk
      go_wp2_with fail
      go_ret
      exact ⟨rfl, rfl⟩

set_option maxHeartbeats 1000000 in
theorem addressed_two {g o c : Nat} {A : Option Addr} {b : Bool} {R : World → Prop} (h0 : w.cell? ⟨g, o, none⟩ = some (.slice A 2 c)) (H : Calls Tryz.prog 127 #[.pointer (some ⟨mb, 0, none⟩), .pointer (some ⟨g, o, none⟩)] w fun r w' => r = .returned (.bool b) ∧ R w') :
    Calls Tryz.prog 100 #[.pointer (some ⟨mb, 0, none⟩), .pointer (some ⟨g, o, none⟩)] w fun r w' => r = .returned (.bool b) ∧ R w' := by
  have HH := hid H
  clear H
  go_enter Tryz.func100, Tryz.ntmps100
  go_wp2_with fail
  refine HH.out.mono ?_
  rintro r w1 ⟨rfl, g1⟩
  go_wp2_with fail
  go_ret
  exact ⟨rfl, g1⟩

/-- A command with two addresses. -/
structure AtTwo (σ : Sst) (c : List Value) (x : Nat) (nt : Bool) (i : Nat) (A B : Adr) : Prop where
  c3 : c[3]? = some (.int .u8 x)
  c2 : c[2]? = some (.bool nt)
  c1 : c[1]? = some (.int .i64 i)
  c0 : ∃ (p ca : Nat) (cells : Array Value) (va vb : List Value), c[0]? = some (.slice (some ⟨p, 0, none⟩) 2 ca) ∧ (p, Obj.cells cells 120 (0, 0)) ∈ σ.fs ∧ AdrV σ.fs A va ∧ AdrV σ.fs B vb ∧ (∀ (j : Nat) (u : Value), va[j]? = some u → cells[j]? = some u) ∧ ∀ (j : Nat) (u : Value), vb[j]? = some u → cells[4 + j]? = some u
theorem AtTwo.of {c : List Value} {x i : Nat} {nt : Bool} {A B : Adr} {v : Value} (h3 : c[3]? = some (.int .u8 x)) (h2 : c[2]? = some (.bool nt)) (h1 : c[1]? = some (.int .i64 i)) (h0 : c[0]? = some v) (hv : AdrsV σ.fs v [A, B]) : AtTwo σ c x nt i A B := by
  refine ⟨h3, h2, h1, ?_⟩
  rcases hv with ⟨q, _⟩ | ⟨p, ca, cells, rfl, hm, hc⟩
  · cases q
  · obtain ⟨va, ha, ca'⟩ := hc 0 _ rfl
    obtain ⟨vb, hb, cb'⟩ := hc 1 _ rfl
    exact ⟨p, ca, cells, va, vb, h0, hm, ha, hb, fun j u hu => by have := ca' j u hu; simpa using this, cb'⟩

/-- An address lies there. -/
def AdrW (w : World) : Adr → List Value → Prop
  | .num x, v => v = adrV 0 x
  | .last, v => v = adrV 1 0
  | .pat Q txt, v => ∃ pb, v = adrP pb txt ∧ Q pb w
theorem AdrV.here {fs : List (Nat × Obj)} {A : Adr} {v : List Value} (h : AdrV fs A v) (hw : ∀ f ∈ fs, w.heap[f.1]? = some f.2) : AdrW w A v := by
  cases A with
  | num x => exact h
  | last => exact h
  | pat Q txt =>
    obtain ⟨pb, g, o1, o2, e, h1, h2, hb⟩ := h
    exact ⟨pb, e, hb w (hw _ h1) (hw _ h2)⟩
/-- What ranged comes to. -/
def RangedTo (w0 : World) (mb sb db : Nat) (p : Pst) (i : Nat) (A B : Adr) (b : Bool) (p2 : Pst) : Prop :=
  ∀ w s ca co ap va vb, Mac w0 w mb sb db s → s.p = p → (∃ cap, w.cell? ⟨ca, co, none⟩ = some (.slice (some ⟨ap, 0, none⟩) 2 cap)) → w.cell? ⟨ca, co + 1, none⟩ = some (.int .i64 i) → AdrW w A va → AdrW w B vb → (∀ j u, va[j]? = some u → w.cell? ⟨ap, j, none⟩ = some u) → (∀ j u, vb[j]? = some u → w.cell? ⟨ap, 4 + j, none⟩ = some u) →
    Calls Tryz.prog 127 #[.pointer (some ⟨mb, 0, none⟩), .pointer (some ⟨ca, co, none⟩)] w fun r w' => r = .returned (.bool b) ∧ Goes w0 mb sb db w s w' p2

theorem look_two {p p2 : Pst} {c : List Value} {x i : Nat} {nt b : Bool} {A B : Adr} (hs : Scr lo hi w0 sb 0 σ) (hc : σ.cs[p.pc]? = some c) (hA : AtTwo σ c x nt i A B) (hR : RangedTo w0 mb sb db p.on i A B b p2) :
    ∃ g cap, σ.vc = .slice (some ⟨g, 0, none⟩) σ.cs.length cap ∧ ∀ w1 s1, Mac w0 w1 mb sb db s1 → s1.p = p.on → Calls Tryz.prog 100 #[.pointer (some ⟨mb, 0, none⟩), .pointer (some ⟨g, p.pc * 23, none⟩)] w1 fun r w' => r = .returned (.bool b) ∧ Goes w0 mb sb db w1 s1 w' p2 := by
  obtain ⟨ap, ca, cells, va, vb, h0, hm, ha, hb, qA, qB⟩ := hA.c0
  obtain ⟨g, cap, hv, _⟩ := hs.cmd hc
  refine ⟨g, cap, hv, fun w1 s1 m1 e1 => ?_⟩
  obtain ⟨g', cap', hv', hcell⟩ := (hs.keep m1.r.kp (fun _ e => by cases e)).cmd hc
  obtain rfl : g' = g := by rw [hv] at hv'; injection hv' with e _ _; injection e with e; injection e with e; exact e.symm
  have hfx : ∀ f ∈ σ.fs, w1.heap[f.1]? = some f.2 := fun f hf => ((hs.keep m1.r.kp (fun _ e => by cases e)).fx _ hf).1
  have hh := hfx _ hm
  have h0' := hcell 0 _ h0
  exact addressed_two h0' (hR w1 s1 _ _ ap va vb m1 e1 ⟨ca, h0'⟩ (hcell 1 _ hA.c1) (ha.here hfx) (hb.here hfx) (fun j u hu => cells_at hh (qA j u hu)) (fun j u hu => cells_at hh (qB j u hu)))
theorem look_two_do {p p2 p3 : Pst} {c : List Value} {x i k f : Nat} {nt b : Bool} {A B : Adr} (hs : Scr lo hi w0 sb 0 σ) (hc : σ.cs[p.pc]? = some c) (hA : AtTwo σ c x nt i A B) (hst : p.steps < 2000) (hpc : p.pc < 2000) (hen : Enters f)
    (ht : Instr.findNow (.int .u8) (.int .u8 x) (tabE 0 deedsL) 0 = some (some (k, .func (.func f) #[] #[]))) (hR : RangedTo w0 mb sb db p.on i A B b p2) (hb : b = !nt)
    (hD : ∀ w2 s2 cp, Mac w0 w2 mb sb db s2 → s2.p = p2 → Calls Tryz.prog f #[.pointer (some ⟨mb, 0, none⟩), cp] w2 fun r w' => r = .returned (.tuple #[]) ∧ Goes w0 mb sb db w2 s2 w' p3) : Look w0 mb sb db p p3 := fun w s hM hp => by
  have e1 : s.pc = p.pc := congrArg Pst.pc hp
  have e2 : s.steps = p.steps := congrArg Pst.steps hp
  obtain ⟨g, cap, hv, H⟩ := look_two hs hc hA hR
  refine look_do (b := b) (p2 := p2) hM hs (by rw [e1]; exact hc) hv hA.c3 hA.c2 ht (by omega) (by omega) hen (fun w1 s1 m1 q1' => ?_) hb (fun w2 s2 m2 q2 => hD w2 s2 _ m2 q2)
  rw [e1]
  exact H w1 s1 m1 (by rw [q1', hp, e1, e2]; rfl)
theorem look_two_skip {p p2 : Pst} {c : List Value} {x i k f : Nat} {nt b : Bool} {A B : Adr} (hs : Scr lo hi w0 sb 0 σ) (hc : σ.cs[p.pc]? = some c) (hA : AtTwo σ c x nt i A B) (hst : p.steps < 2000) (hpc : p.pc < 2000)
    (ht : Instr.findNow (.int .u8) (.int .u8 x) (tabE 0 deedsL) 0 = some (some (k, .func (.func f) #[] #[]))) (hR : RangedTo w0 mb sb db p.on i A B b p2) (hb : b = nt) (hx : x ≠ 123) : Look w0 mb sb db p p2 := fun w s hM hp => by
  have e1 : s.pc = p.pc := congrArg Pst.pc hp
  have e2 : s.steps = p.steps := congrArg Pst.steps hp
  obtain ⟨g, cap, hv, H⟩ := look_two hs hc hA hR
  refine look_skip (b := b) (p2 := p2) hM hs (by rw [e1]; exact hc) hv hA.c3 hA.c2 ht (by omega) (by omega) (fun w1 s1 m1 q1' => ?_) hb hx
  rw [e1]
  exact H w1 s1 m1 (by rw [q1', hp, e1, e2]; rfl)

/-- Two numbers. -/
theorem ranged_nums {p : Pst} {i a b : Nat} {g : Bool} (hg : p.rg[i]? = some g) : RangedTo w0 mb sb db p i (.num a) (.num b) (g || (p.number == a)) (p.rgd i ((g || (p.number == a)) && decide (p.number < b))) := by
  intro w s ca co ap va vb hM hp h0 h1 eA eB hA hB
  subst eA eB
  subst hp
  have hT : Two w ca co ap i 0 b := ⟨h0, h1, hB 0 _ rfl, hB 1 _ rfl⟩
  have hg : s.r.rg[i]? = some g := hg
  have e2 : s.p.number = s.number := rfl
  simp only [e2]
  cases g with
  | true =>
    have := ranged_num_on hM hT hg
    simpa using this
  | false =>
    cases hq : (s.number == a) with
    | true =>
      have := ranged_num_begins hM hT hg (saysK_num hM (hA 0 _ rfl) (hA 1 _ rfl) (by simp at hq; rw [hq]; simp))
      simpa [hq] using this
    | false =>
      have := ranged_num_not hM hT hg (saysK_num hM (hA 0 _ rfl) (hA 1 _ rfl) (by simp at hq; simp; omega))
      simpa [hq] using this
end
end Go.Proofs.YtonnimbcekhbgaaGreatDoor

/- What the law's scripts do with its lines: kq k, and a last line without its newline. -/
namespace Go.Proofs.YtonnimbcekhbgaaGreatDoor
open Go.RowKit

section
variable {σ : Sst} {ls : List (List UInt8)}

/-- kq k -/
def qS (K : Nat) : ByteArray := dg K ++ ⟨#[113, 32]⟩ ++ dg K
def qOk (K : Nat) : Bool :=
  isD (qS K) 0 && (numN (qS K) 1 1000000 0 10 0 0 == some (K, (dg K).size)) && !(saw (qS K) (dg K).size 44) && (blk (qS K) (dg K).size == (dg K).size) && !(saw (qS K) (dg K).size 33) && saw (qS K) (dg K).size 113 &&
  (numN (qS K) 0 255 (blk (qS K) ((dg K).size + 1)) 10 0 (blk (qS K) ((dg K).size + 1)) == some (K, (qS K).size)) && mayEnd (qS K) (blk (qS K) (qS K).size) && (blk (qS K) (qS K).size == (qS K).size) && (btwN (qS K) 10 0 == some 0) && (btwN (qS K) 10 (qS K).size == some (qS K).size) && !(qtB (qS K)) && decide (0 < (dg K).size) && decide ((qS K).size ≤ 2000)
theorem qOk_all : ∀ K, K < 21 → 1 ≤ K → qOk K = true := by decide +kernel

theorem saw_at {s : ByteArray} {k : Nat} {x : Nat} (h : saw s k x = true) : ∃ hk : k < s.size, (s[k]).toNat = x := by
  unfold saw at h
  split at h
  · rename_i hk
    refine ⟨hk, ?_⟩
    simp at h
    omega
  · cases h

abbrev qR (K : Nat) : Sst → List Value → Sst → List Value → Prop := fun σ cv σ' cv' => σ' = σ ∧ cv' = cv.set 8 (.int .i64 K)
theorem script_q {K : Nat} (h1 : 1 ≤ K) (h2 : K ≤ 20) : Script (qS K) (oneT [.num K] 113 (qR K)) := by
  have h := qOk_all K (by omega) h1
  simp only [qOk, Bool.and_eq_true, beq_iff_eq, Bool.not_eq_true', decide_eq_true_eq] at h
  obtain ⟨⟨⟨⟨⟨⟨⟨⟨⟨⟨⟨⟨⟨a1, a2⟩, a3⟩, a4⟩, a5⟩, a6⟩, a7⟩, a8⟩, a9⟩, a10⟩, a11⟩, a12⟩, a13⟩, a14⟩ := h
  obtain ⟨hk, hx⟩ := saw_at (x := 113) a6
  have hc : CmdAt (qS K) 0 ((dg K).size + 1) (qS K).size 74 113 [.num K] :=
    ⟨⟨(dg K).size, (dg K).size, ⟨⟨a1, 10, a2⟩, a3⟩, by rw [a4]; exact a5, a4.symm, ⟨hk, hx⟩, rfl⟩, ⟨10, by kernel_rfl⟩, by omega⟩
  refine ⟨a14, ⟨1, by omega, fun w0 b => .more a10 (by omega) (by omega) (hc.ok (op_status w0 a7) (opR_status K) enters_status a8 a9.symm) (cmdT_grows (opR_status K)) (.done a11)⟩, fun σ σ' hf e => ?_⟩
  obtain ⟨σ1, ⟨A, c, fs, σ2, cv, v, _, _, ⟨rfl, rfl⟩, rfl⟩, rfl⟩ := e
  exact ⟨hf.bs, hf.gs⟩

theorem q_facts {K : Nat} {σ σ' : Sst} (h1 : 1 ≤ K) (h2 : K ≤ 20) (hf : Fresh (qS K) σ) (h : oneT [.num K] 113 (qR K) σ σ') : σ'.ns.length ≤ 2000 ∧ σ'.ranges ≤ 2000 ∧ σ'.quiet = false ∧ ∃ c, σ'.cs = [c] ∧ AtNum σ' c 113 K ∧ c[8]? = some (.int .i64 K) := by
  have hq := qOk_all K (by omega) h1
  simp only [qOk, Bool.and_eq_true, beq_iff_eq, Bool.not_eq_true', decide_eq_true_eq] at hq
  obtain ⟨σ1, ⟨A, c, fs, σ2, cv, v, hav, _, ⟨rfl, rfl⟩, rfl⟩, rfl⟩ := h
  refine ⟨by show σ.ns.length ≤ _; rw [hf.ns]; simp, by show σ.ranges ≤ _; rw [hf.ranges]; omega, hf.quiet.trans hq.1.1.2, (cmdV (.slice A 1 c) 0 false 113).set 8 (.int .i64 K), ?_, AtNum.of rfl rfl rfl hav, rfl⟩
  show σ.cs ++ [(cmdV (.slice A 1 c) 0 false 113).set 8 (.int .i64 K)] = _
  rw [hf.cs]; rfl

theorem doesQ {K : Nat} {w : World} (h1 : 1 ≤ K) (h2 : K ≤ 20) (hl : Lok ls) (hk : K ≤ ls.length) : Calls Tryz.prog 12 #[.string (qS K), .string (ba (wh ls)), .string (ba (wh (ls.take K))), .int .i64 K] w fun r w' => r = .returned (.bool true) ∧ Kp [] w w' := by
  have hz := hl.size
  have hn := hl.len
  obtain ⟨A, L, B, rfl, hA⟩ : ∃ A L B, ls = A ++ L :: B ∧ A.length = K - 1 := by
    refine ⟨ls.take (K - 1), ls[K - 1], ls.drop K, ?_, by rw [List.length_take]; omega⟩
    have e := List.drop_eq_getElem_cons (l := ls) (i := K - 1) (by omega)
    rw [show K - 1 + 1 = K by omega] at e
    rw [← e, List.take_append_drop]
  have e : (A ++ L :: B).take K = A ++ [L] := by
    rw [show K = A.length + 1 by omega, List.take_append, List.take_of_length_le (by omega)]
    simp
  rw [e]
  refine does_v (ah := false) (script_q h1 h2) (by rw [ba_size]; omega) ?_ (fun σ σ' hf ht => ?_)
  · rw [wh_app] at hz ⊢
    rw [wh_cons] at hz
    simp [wh] at hz ⊢
    omega
  · obtain ⟨q1, q2, q3, c, q4, q5, q6⟩ := q_facts h1 h2 hf ht
    refine ⟨q1, q2, knows_of (by rw [q4]; simp) (fun i c' hc => ?_), acts_quit q4 q3 q5 q6 hl.line (by omega) (by omega) (by omega)⟩
    rw [q4] at hc
    match i, hc with
    | 0, hc => injection hc with hc; subst hc; exact ⟨113, by omega, by omega, .inr ⟨K, q5⟩⟩
theorem doesQ0 {K : Nat} {w : World} (h1 : 1 ≤ K) (h2 : K ≤ 20) (hl : Lok ls) (hk : ls.length < K) : Calls Tryz.prog 12 #[.string (qS K), .string (ba (wh ls)), .string (ba (wh ls)), .int .i64 0] w fun r w' => r = .returned (.bool true) ∧ Kp [] w w' := by
  have hz := hl.size
  have hn := hl.len
  refine does_v (st := 0) (ah := false) (script_q h1 h2) (by rw [ba_size]; omega) (by omega) (fun σ σ' hf ht => ?_)
  obtain ⟨q1, q2, q3, c, q4, q5, q6⟩ := q_facts h1 h2 hf ht
  refine ⟨q1, q2, knows_of (by rw [q4]; simp) (fun i c' hc => ?_), acts_noquit q4 q3 q5 hl.line (by omega) (by omega) (by omega)⟩
  rw [q4] at hc
  match i, hc with
  | 0, hc => injection hc with hc; subst hc; exact ⟨113, by omega, by omega, .inr ⟨K, q5⟩⟩

theorem doesCut {w : World} {A : List (List UInt8)} {M : List UInt8} (hl : Lok (A ++ [M])) (hM : M ≠ []) : Calls Tryz.prog 12 #[.string ⟨#[]⟩, .string (ba (wh A ++ M)), .string (ba (wh (A ++ [M]))), .int .i64 0] w fun r w' => r = .returned (.bool true) ∧ Kp [] w w' := by
  have hz := hl.size
  have hn := hl.len
  rw [List.length_append] at hn
  have e : wh (A ++ [M]) = told (fun _ L => L ++ [10]) 1 A ++ (M ++ [10]) := by rw [wh_app, told_wh]; simp [wh]
  have hz2 := hz
  rw [wh_app] at hz2
  simp only [List.length_append, wh_cons, List.length_cons] at hz2
  refine does_v (st := 0) (ah := false) (script_none ⟨#[]⟩ 5 (by kernel_rfl) (by decide +kernel)) (by rw [ba_size, List.length_append]; omega) (by omega) (fun σ σ' hf ht => ?_)
  obtain ⟨q1, q2, q3, q4, q5⟩ := none_facts hf ht
  have := does_none q4
  rw [show σ'.quiet = false by rw [q5]; kernel_rfl] at this
  refine ⟨q1, q2, q3, ?_⟩
  rw [e]
  exact acts_cut (tl := fun _ L => L ++ [10]) (ct := fun _ L => L.length + 1) this hl.line hM (by omega) (by rw [cnt_wh]; show _ + (M.length + 1) ≤ _; omega) (by rw [List.length_append]; omega)
end
end Go.Proofs.YtonnimbcekhbgaaGreatDoor

/- What a command with two addresses does with lines; scripts of two numbers. -/
namespace Go.Proofs.YtonnimbcekhbgaaGreatDoor
open Go.RowKit

section
variable {w0 w w' : World} {mb sb db lo hi : Nat} {s s' : Mst} {σ : Sst} {ls : List (List UInt8)}

/-- What the range says of a line behind others, and whether it goes on. -/
def Rules (σ : Sst) (A B : Adr) (J : List (List UInt8) → Bool) (ins : List (List UInt8) → List UInt8 → Bool) : Prop :=
  ∀ w0 mb sb db p M L, Beg σ.ns.length p (M.length + 1) L → L.length ≤ 1000 → p.rg = [J M] → RangedTo w0 mb sb db p.on 0 A B (ins M L) (p.on.rgd 0 (J (M ++ [L])))

theorem rgd_rg {p : Pst} {g b : Bool} (h : p.rg = [g]) : (p.on.rgd 0 b).rg = [b] := by
  show (p.rg.set 0 b) = _
  rw [h]; rfl

theorem doesP_print {c : List Value} {A B : Adr} {J : List (List UInt8) → Bool} {ins : List (List UInt8) → List UInt8 → Bool} (hc : σ.cs = [c]) (hq : σ.quiet = true) (hA : AtTwo σ c 112 false 0 A B) (hR : Rules σ A B J ins) :
    DoesP σ (fun M rg _ => rg = [J M]) (fun M L => if ins M L then L ++ [10] else []) (fun M L => if ins M L then L.length + 1 else 0) := by
  intro w0 mb sb db lo hi hs p M L hb hI hM hL hn
  have hr := hR w0 mb sb db p M L hb hL hI
  have hz : p.space.size = L.length := by rw [hb.space, ba_size]
  have hd : p.space.data.toList = L := by rw [hb.space, ba_list]
  have o := hb.out
  obtain ⟨p2, hp2⟩ : ∃ p2, p2 = p.on.rgd 0 (J (M ++ [L])) := ⟨_, rfl⟩
  rw [← hp2] at hr
  have r2 : p2.rg = [J (M ++ [L])] := by rw [hp2]; exact rgd_rg hI
  have s2 : p2.space = p.space := by rw [hp2]; rfl
  have c2 : p2.count = p.count := by rw [hp2]; rfl
  have o2 : p2.out = p.out := by rw [hp2]; rfl
  have pc2 : p2.pc = 1 := by rw [hp2]; show p.pc + 1 = _; rw [hb.pc]
  have b2 : p2.br = [] := by rw [hp2]; exact hb.br
  have v2 : p2.over = false := by rw [hp2]; exact hb.over
  have w2 : p2.wants = .nilFunc := by rw [hp2]; exact hb.wants
  have e2 : p2.err = 0 := by rw [hp2]; exact hb.err
  have t2 : p2.status = 0 := by rw [hp2]; exact hb.status
  have a2 : p2.ahead = false := by rw [hp2]; exact hb.ahead
  have l2 : p2.left = p.left := by rw [hp2]; rfl
  have d2 : p2.ended = p.ended := by rw [hp2]; rfl
  have n2 : p2.number = p.number := by rw [hp2]; rfl
  have f2 : p2.fb = p.fb := by rw [hp2]; rfl
  clear hp2
  cases hins : ins M L with
  | true =>
    rw [hins] at hr
    simp only [hins, if_true] at hn ⊢
    have lk : Look w0 mb sb db p (p2.tell p2.space) := look_two_do hs (by rw [hb.pc, hc]; rfl) hA (by rw [hb.steps]; omega) (by rw [hb.pc]; omega) enters_p deed_p hr rfl (fun w3 s3 cp m3 e3 => by
      have es : s3.space = p2.space := congrArg Pst.space e3
      have := print_v (cp := cp) m3 (room_of e3 (by rw [es, s2, c2]; omega) (by rw [o2, c2]; exact o) b2)
      rw [e3, es] at this
      exact this)
    have o3 : (p2.out ++ p2.space.data.toList ++ [10]).length ≤ p2.count + p2.space.size + 1 := by rw [o2, s2, c2, hd, hz]; simp; omega
    refine ⟨(p2.tell p2.space).endCycle σ.quiet, .more lk v2 w2 (.last (look_ends hs (by show p2.pc = _; rw [pc2, hc]; rfl) (by show p2.count + p2.space.size + 1 + p2.space.size + 1 ≤ _; rw [c2, s2]; omega) o3 b2)), ?_, by rw [hq]; exact r2⟩
    rw [hq]
    refine ⟨⟨rfl, v2, e2, t2, a2, b2, o3, hb.fb.up f2 (by show p.count ≤ p2.count + p2.space.size + 1; omega)⟩, l2, d2, n2, ?_, ?_⟩
    · show p2.out ++ p2.space.data.toList ++ [10] = _
      rw [o2, s2, hd]; simp
    · show p2.count + p2.space.size + 1 = _
      rw [c2, s2, hz]; omega
  | false =>
    rw [hins] at hr
    simp only [hins, Bool.false_eq_true, if_false] at hn ⊢
    have lk : Look w0 mb sb db p p2 := look_two_skip hs (by rw [hb.pc, hc]; rfl) hA (by rw [hb.steps]; omega) (by rw [hb.pc]; omega) deed_p hr rfl (by omega)
    refine ⟨p2.endCycle σ.quiet, .more lk v2 w2 (.last (look_ends hs (by rw [pc2, hc]; rfl) (by rw [c2, s2]; omega) (by rw [o2, c2]; exact o) b2)), ?_, by rw [hq]; exact r2⟩
    rw [hq]
    exact ⟨⟨rfl, v2, e2, t2, a2, b2, by show p2.out.length ≤ p2.count; rw [o2, c2]; exact o, hb.fb.up f2 (by show p.count ≤ p2.count; omega)⟩, l2, d2, n2, by show p2.out = _; rw [o2]; simp, by show p2.count = _; rw [c2]; rfl⟩

theorem doesP_drop {c : List Value} {A B : Adr} {nt : Bool} {J : List (List UInt8) → Bool} {ins : List (List UInt8) → List UInt8 → Bool} (hc : σ.cs = [c]) (hq : σ.quiet = false) (hA : AtTwo σ c 100 nt 0 A B) (hR : Rules σ A B J ins) :
    DoesP σ (fun M rg _ => rg = [J M]) (fun M L => if ins M L = nt then L ++ [10] else []) (fun M L => if ins M L = nt then L.length + 1 else 0) := by
  intro w0 mb sb db lo hi hs p M L hb hI hM hL hn
  have hr := hR w0 mb sb db p M L hb hL hI
  have hz : p.space.size = L.length := by rw [hb.space, ba_size]
  have hd : p.space.data.toList = L := by rw [hb.space, ba_list]
  have o := hb.out
  obtain ⟨p2, hp2⟩ : ∃ p2, p2 = p.on.rgd 0 (J (M ++ [L])) := ⟨_, rfl⟩
  rw [← hp2] at hr
  have r2 : p2.rg = [J (M ++ [L])] := by rw [hp2]; exact rgd_rg hI
  have s2 : p2.space = p.space := by rw [hp2]; rfl
  have c2 : p2.count = p.count := by rw [hp2]; rfl
  have o2 : p2.out = p.out := by rw [hp2]; rfl
  have pc2 : p2.pc = 1 := by rw [hp2]; show p.pc + 1 = _; rw [hb.pc]
  have b2 : p2.br = [] := by rw [hp2]; exact hb.br
  have v2 : p2.over = false := by rw [hp2]; exact hb.over
  have w2 : p2.wants = .nilFunc := by rw [hp2]; exact hb.wants
  have e2 : p2.err = 0 := by rw [hp2]; exact hb.err
  have t2 : p2.status = 0 := by rw [hp2]; exact hb.status
  have a2 : p2.ahead = false := by rw [hp2]; exact hb.ahead
  have l2 : p2.left = p.left := by rw [hp2]; rfl
  have d2 : p2.ended = p.ended := by rw [hp2]; rfl
  have n2 : p2.number = p.number := by rw [hp2]; rfl
  have f2 : p2.fb = p.fb := by rw [hp2]; rfl
  clear hp2
  by_cases hins : ins M L = nt
  · rw [hins] at hr
    simp only [hins, if_true] at hn ⊢
    have lk : Look w0 mb sb db p p2 := look_two_skip hs (by rw [hb.pc, hc]; rfl) hA (by rw [hb.steps]; omega) (by rw [hb.pc]; omega) deed_d hr rfl (by omega)
    refine ⟨p2.endCycle σ.quiet, .more lk v2 w2 (.last (look_ends hs (by rw [pc2, hc]; rfl) (by rw [c2, s2]; omega) (by rw [o2, c2]; exact o) b2)), ?_, by rw [hq]; exact r2⟩
    rw [hq]
    refine ⟨⟨rfl, v2, e2, t2, a2, b2, ?_, hb.fb.up f2 (by show p.count ≤ p2.count + p2.space.size + 1; omega)⟩, l2, d2, n2, ?_, ?_⟩
    · show (p2.out ++ p2.space.data.toList ++ [10]).length ≤ p2.count + p2.space.size + 1
      rw [o2, s2, c2, hd, hz]; simp; omega
    · show p2.out ++ p2.space.data.toList ++ [10] = _
      rw [o2, s2, hd]; simp
    · show p2.count + p2.space.size + 1 = _
      rw [c2, s2, hz]; omega
  · simp only [hins, if_false] at hn ⊢
    have lk : Look w0 mb sb db p p2.dropCycle := look_two_do hs (by rw [hb.pc, hc]; rfl) hA (by rw [hb.steps]; omega) (by rw [hb.pc]; omega) enters_d deed_d hr (by cases h1 : ins M L <;> cases h2 : nt <;> simp_all) (fun w3 s3 cp m3 e3 => by
      have := drop_v (cp := cp) m3 ((congrArg Pst.br e3).trans b2)
      rw [e3] at this
      exact this)
    exact ⟨p2.dropCycle, .last lk, ⟨⟨rfl, v2, e2, t2, a2, b2, by show p2.out.length ≤ p2.count; rw [o2, c2]; exact o, hb.fb.up f2 (by show p.count ≤ p2.count; omega)⟩, l2, d2, n2, by show p2.out = _; rw [o2]; simp, by show p2.count = _; rw [c2]; rfl⟩, r2⟩

/-- Two numbers. -/
def onB (a b n : Nat) : Bool := decide (a ≤ n ∧ n < b)
def insB (a b n : Nat) : Bool := decide ((a ≤ n ∧ n ≤ b) ∨ n = a)
theorem rules_nums (a b : Nat) : Rules σ (.num a) (.num b) (fun M => onB a b M.length) (fun M _ => insB a b (M.length + 1)) := by
  intro w0 mb sb db p M L hb hL hI
  have hn : p.on.number = M.length + 1 := hb.number
  have hg : p.on.rg[0]? = some (onB a b M.length) := by show p.rg[0]? = _; rw [hI]; rfl
  have := ranged_nums (w0 := w0) (mb := mb) (sb := sb) (db := db) (a := a) (b := b) hg
  have e1 : (onB a b M.length || (p.on.number == a)) = insB a b (M.length + 1) := by
    rw [hn, Bool.eq_iff_iff]
    simp only [onB, insB, Bool.or_eq_true, decide_eq_true_eq, beq_iff_eq]
    omega
  have e2 : (insB a b (M.length + 1) && decide (p.on.number < b)) = onB a b (M ++ [L]).length := by
    rw [hn, List.length_append]
    show _ = onB a b (M.length + 1)
    rw [Bool.eq_iff_iff]
    simp only [onB, insB, Bool.and_eq_true, decide_eq_true_eq]
    omega
  rw [e1, e2] at this
  exact this

/-- A command with addresses at a place of a script. -/
theorem cmdN_ok {w0 : World} {b : Nat} {src : ByteArray} {k k1 k3 e' k5 f x i : Nat} {nt : Bool} {L : List Adr} {R : Sst → List Value → Sst → List Value → Prop} (hA : AdrsOk src k k1 L) (hN : (nt = false ∧ saw src (blk src k1) 33 = false ∧ k3 = blk src k1) ∨ (nt = true ∧ saw src (blk src k1) 33 = true ∧ k3 = blk src (blk src k1 + 1)))
    (hx : saw src k3 x = true) (hi : Instr.findNow (.int .u8) (.int .u8 x) (tabE 0 opsL) 0 = some (some (i, .func (.func f) #[] #[]))) (hb : x ≠ 125 ∧ x ≠ 58 ∧ x ≠ 123) (ho : OpOk w0 f b src (k3 + 1) e' R) (hR : OpR R) (hce : Enters f) (hE : mayEnd src (blk src e') = true) (h5 : k5 = blk src e') : CmdOk w0 b src k k5 (CmdT L nt x R) := by
  intro w σ hs hcs hrg hsm
  obtain ⟨hk, hx⟩ := saw_at hx
  refine (command_v hs hA hN hk hx hi (fun q => by omega) ho hce (fun _ _ _ _ q => ⟨hR.c3 _ _ _ _ q, hR.cs _ _ _ _ q⟩) (.inr ⟨hb.2.2, hE, h5⟩) hcs hrg hsm).mono ?_
  rintro r w' ⟨hr, A, c, fs, σ', cv', v', q1, q2, q3, q4⟩
  exact ⟨hr, _, ⟨A, c, fs, σ', cv', v', q1, q2, q3, rfl⟩, q4⟩

abbrev noR : Sst → List Value → Sst → List Value → Prop := fun σ cv σ' cv' => σ' = σ ∧ cv' = cv
def twoT (L : List Adr) (nt : Bool) (x : Nat) (σ σ' : Sst) : Prop := ∃ σ1, CmdT L nt x noR σ σ1 ∧ σ' = σ1
theorem two_facts {src : ByteArray} {σ σ' : Sst} {A B : Adr} {nt : Bool} {x : Nat} (hf : Fresh src σ) (h : twoT [A, B] nt x σ σ') : σ'.bs = [] ∧ σ'.gs = [] ∧ σ'.ns.length ≤ 2000 ∧ σ'.ranges = 1 ∧ σ'.quiet = qtB src ∧ ∃ c, σ'.cs = [c] ∧ AtTwo σ' c x nt 0 A B := by
  obtain ⟨σ1, ⟨A', c, fs, σ2, cv, v, hav, _, ⟨rfl, rfl⟩, rfl⟩, rfl⟩ := h
  have hr : σ.ranges = 0 := hf.ranges
  refine ⟨hf.bs, hf.gs, by show σ.ns.length ≤ _; rw [hf.ns]; simp, by show (if ([A, B] : List Adr).length = 2 then σ.ranges + 1 else σ.ranges) = 1; rw [hr]; rfl, hf.quiet, cmdV (.slice A' 2 c) σ.ranges nt x, ?_, AtTwo.of rfl rfl (by rw [hr]; rfl) rfl hav⟩
  show σ.cs ++ [cmdV (.slice A' ([A, B] : List Adr).length c) (if ([A, B] : List Adr).length = 2 then σ.ranges else 0) nt x] = _
  rw [hf.cs]; rfl

/-- No address that asks for the last line. -/
def Adr.kd : Adr → Nat
  | .num _ => 0
  | .last => 1
  | .pat _ _ => 2
theorem AdrV.kind {fs : List (Nat × Obj)} {A : Adr} {v : List Value} (h : AdrV fs A v) : v[0]? = some (.int .i64 A.kd) := by
  cases A with
  | num x => rw [show v = _ from h]; rfl
  | last => rw [show v = _ from h]; rfl
  | pat Q txt => obtain ⟨pb, g, o1, o2, e, _⟩ := h; rw [e]; rfl
theorem knows_two {c : List Value} {A B : Adr} {nt : Bool} {x i : Nat} (hc : σ.cs = [c]) (hA : AtTwo σ c x nt i A B) (h1 : A.kd ≠ 1) (h2 : B.kd ≠ 1) (hx1 : x ≠ 110) (hx2 : x ≠ 78) : Knows σ false := by
  intro lo hi wx sb hs
  refine ahead_of hs (by rw [hc]; simp) (fun j g cap hj hv => ?_)
  have hj0 : j = 0 := by rw [hc] at hj; simpa using hj
  subst hj0
  obtain ⟨g', cap', hv', hcell⟩ := hs.cmd (i := 0) (c := c) (by rw [hc]; rfl)
  obtain rfl : g' = g := by rw [hv] at hv'; injection hv' with e _ _; injection e with e; injection e with e; exact e.symm
  obtain ⟨p, ca, cells, va, vb, h0, hm, ha, hb, qA, qB⟩ := hA.c0
  have hh := (hs.fx _ hm).1
  refine aheadC_any (hcell 0 _ h0) (by omega) (fun k hk => ?_) (hcell 3 _ hA.c3) hx1 hx2
  match k, hk with
  | 0, _ => exact ⟨A.kd, h1, cells_at hh (qA 0 _ ha.kind)⟩
  | 1, _ => exact ⟨B.kd, h2, cells_at hh (qB 0 _ hb.kind)⟩

/-- Two numbers and a command, at a place of a script. -/
def twoAt (s : ByteArray) (k a b : Nat) (nt : Bool) (x : Nat) (e1 e2 e3 : Nat) : Bool :=
  isD s k && (numN s 1 1000000 k 10 0 k == some (a, e1)) && saw s e1 44 && isD s (e1 + 1) && (numN s 1 1000000 (e1 + 1) 10 0 (e1 + 1) == some (b, e2)) && (saw s (blk s e2) 33 == nt) && (e3 == if nt then blk s (blk s e2 + 1) else blk s e2) && saw s e3 x && mayEnd s (blk s (e3 + 1)) && (blk s (e3 + 1) == s.size) && (btwN s 10 0 == some k) && (btwN s 10 s.size == some s.size) && decide (k < s.size) && decide (s.size ≤ 2000)
theorem twoAt_script {s : ByteArray} {k a b x e1 e2 e3 i : Nat} {nt : Bool} (h : twoAt s k a b nt x e1 e2 e3 = true) (hi : Instr.findNow (.int .u8) (.int .u8 x) (tabE 0 opsL) 0 = some (some (i, .func (.func 76) #[] #[]))) (hb : x ≠ 125 ∧ x ≠ 58 ∧ x ≠ 123) : Script s (twoT [.num a, .num b] nt x) := by
  simp only [twoAt, Bool.and_eq_true, beq_iff_eq, decide_eq_true_eq] at h
  obtain ⟨⟨⟨⟨⟨⟨⟨⟨⟨⟨⟨⟨⟨a1, a2⟩, a3⟩, a4⟩, a5⟩, a6⟩, a7⟩, a8⟩, a9⟩, a10⟩, a11⟩, a12⟩, a13⟩, a14⟩ := h
  refine ⟨a14, ⟨1, by omega, fun w0 b' => .more a11 a13 a13 (cmdN_ok (e' := e3 + 1) ⟨e1, ⟨a1, 10, a2⟩, a3, a4, 10, a5⟩ ?_ a8 hi hb (op_nothing w0 b' s (e3 + 1)) opR_nothing enters_nothing a9 a10.symm) (cmdT_grows opR_nothing) (.done a12)⟩, fun σ σ' hf e => ?_⟩
  · cases nt with
    | false => exact .inl ⟨rfl, a6, a7⟩
    | true => exact .inr ⟨rfl, a6, a7⟩
  · have := two_facts hf e
    exact ⟨this.1, this.2.1⟩
end
end Go.Proofs.YtonnimbcekhbgaaGreatDoor
