/- What q with a number does. -/
import Derived.Test.YtonnimbcekhbgaaGreatDoorFI
namespace Go.Proofs.YtonnimbcekhbgaaGreatDoor
open Go.RowKit

section
variable {w0 w w' : World} {mb sb db lo hi : Nat} {s s' : Mst} {σ : Sst}

/-- A command with a number for its address. -/
structure AtNum (σ : Sst) (c : List Value) (x n : Nat) : Prop where
  c3 : c[3]? = some (.int .u8 x)
  c2 : c[2]? = some (.bool false)
  c0 : ∃ p ca cells, c[0]? = some (.slice (some ⟨p, 0, none⟩) 1 ca) ∧ (p, Obj.cells cells 120 (0, 0)) ∈ σ.fs ∧ cells[0]? = some (.int .i64 0) ∧ cells[1]? = some (.int .i64 n)

theorem AtNum.of {c : List Value} {x n : Nat} {v : Value} (h3 : c[3]? = some (.int .u8 x)) (h2 : c[2]? = some (.bool false)) (h0 : c[0]? = some v) (hv : AdrsV σ.fs v [.num n]) : AtNum σ c x n := by
  refine ⟨h3, h2, ?_⟩
  rcases hv with ⟨q, _⟩ | ⟨p, ca, cells, rfl, hm, hc⟩
  · cases q
  · exact ⟨p, ca, cells, h0, hm, hc 0 _ rfl 0 _ rfl, hc 0 _ rfl 1 _ rfl⟩

theorem cells_at {p i : Nat} {cells : Array Value} {t : TypeId} {v : Value} (h : w.heap[p]? = some (Obj.cells cells t (0, 0))) (hv : cells[i]? = some v) : w.cell? ⟨p, i, none⟩ = some v := by
  simp [World.cell?, h, hv]

theorem look_at {p p3 : Pst} {c : List Value} {x n i f : Nat} (hs : Scr lo hi w0 sb 0 σ) (hc : σ.cs[p.pc]? = some c) (hA : AtNum σ c x n) (hst : p.steps < 2000) (hpc : p.pc < 2000) (hen : Enters f)
    (ht : Instr.findNow (.int .u8) (.int .u8 x) (tabE 0 deedsL) 0 = some (some (i, .func (.func f) #[] #[]))) (hn : p.number = n)
    (hD : ∀ w2 s2 g, Mac w0 w2 mb sb db s2 → s2.p = p.on → (∀ j u, c[j]? = some u → w2.cell? ⟨g, p.pc * 23 + j, none⟩ = some u) → Calls Tryz.prog f #[.pointer (some ⟨mb, 0, none⟩), .pointer (some ⟨g, p.pc * 23, none⟩)] w2 fun r w' => r = .returned (.tuple #[]) ∧ Goes w0 mb sb db w2 s2 w' p3) : Look w0 mb sb db p p3 := fun w s hM hp => by
  have e1 : s.pc = p.pc := congrArg Pst.pc hp
  have e2 : s.steps = p.steps := congrArg Pst.steps hp
  obtain ⟨ap, ca, cells, h0, hm, q0, q1⟩ := hA.c0
  obtain ⟨g, cap, hv, _⟩ := hs.cmd hc
  have key : ∀ wx, Kp [] w0 wx → ∀ j u, c[j]? = some u → wx.cell? ⟨g, p.pc * 23 + j, none⟩ = some u := fun wx kx => by
    obtain ⟨g', cap', hv', hcell⟩ := (hs.keep kx (fun _ e => by cases e)).cmd hc
    obtain rfl : g' = g := by rw [hv] at hv'; injection hv' with e _ _; injection e with e; injection e with e; exact e.symm
    exact hcell
  refine look_do (b := true) (p2 := p.on) hM hs (by rw [e1]; exact hc) hv hA.c3 hA.c2 ht (by omega) (by omega) hen (fun w1 s1 m1 q1' => ?_) rfl (fun w2 s2 m2 q2 => by rw [e1]; exact hD w2 s2 g m2 q2 (key w2 m2.r.kp))
  have e3 : s1.p = p.on := by rw [q1', hp, e1, e2]; rfl
  have hh := ((hs.keep m1.r.kp (fun _ e => by cases e)).fx _ hm).1
  rw [← e3, e1]
  have hnn : s1.number = n := (congrArg Pst.number e3).trans hn
  exact addressed_num m1 (key _ m1.r.kp 0 _ h0) (cells_at hh q0) (cells_at hh q1) (by rw [hnn]; simp)

theorem look_past {p : Pst} {c : List Value} {x n i f : Nat} (hs : Scr lo hi w0 sb 0 σ) (hc : σ.cs[p.pc]? = some c) (hA : AtNum σ c x n) (hst : p.steps < 2000) (hpc : p.pc < 2000)
    (ht : Instr.findNow (.int .u8) (.int .u8 x) (tabE 0 deedsL) 0 = some (some (i, .func (.func f) #[] #[]))) (hn : p.number ≠ n) (hx : x ≠ 123) : Look w0 mb sb db p p.on := fun w s hM hp => by
  have e1 : s.pc = p.pc := congrArg Pst.pc hp
  have e2 : s.steps = p.steps := congrArg Pst.steps hp
  obtain ⟨ap, ca, cells, h0, hm, q0, q1⟩ := hA.c0
  obtain ⟨g, cap, hv, _⟩ := hs.cmd hc
  have key : ∀ wx, Kp [] w0 wx → ∀ j u, c[j]? = some u → wx.cell? ⟨g, p.pc * 23 + j, none⟩ = some u := fun wx kx => by
    obtain ⟨g', cap', hv', hcell⟩ := (hs.keep kx (fun _ e => by cases e)).cmd hc
    obtain rfl : g' = g := by rw [hv] at hv'; injection hv' with e _ _; injection e with e; injection e with e; exact e.symm
    exact hcell
  refine look_skip (b := false) (p2 := p.on) hM hs (by rw [e1]; exact hc) hv hA.c3 hA.c2 ht (by omega) (by omega) (fun w1 s1 m1 q1' => ?_) rfl hx
  have e3 : s1.p = p.on := by rw [q1', hp, e1, e2]; rfl
  have hh := ((hs.keep m1.r.kp (fun _ e => by cases e)).fx _ hm).1
  rw [← e3, e1]
  have hnn : s1.number = p.number := congrArg Pst.number e3
  exact addressed_num m1 (key _ m1.r.kp 0 _ h0) (cells_at hh q0) (cells_at hh q1) (by rw [hnn]; simp; omega)

/-- What a script does with a line of such a number. -/
def DoesIf (ok : Nat → Prop) (σ : Sst) (tl : Nat → List UInt8 → List UInt8) (ct : Nat → List UInt8 → Nat) : Prop :=
  ∀ (w0 : World) (mb sb db lo hi : Nat), Scr lo hi w0 sb 0 σ → ∀ p k L, Beg σ.ns.length p k L → ok k → k < 100 → L.length ≤ 1000 → p.count + ct k L ≤ 190000 → ∃ p', Looks w0 mb sb db p p' ∧ Cyc σ.ns.length p p' (tl k L) (ct k L)

theorem run_to {ok : Nat → Prop} {tl : Nat → List UInt8 → List UInt8} {ct : Nat → List UInt8 → Nat} (hd : DoesIf ok σ tl ct) (hs : Scr lo hi w0 sb 0 σ) {M : List UInt8} {Q : Pst → Prop} :
    ∀ (ls : List (List UInt8)), (∀ l ∈ ls, (10 : UInt8) ∉ l ∧ l.length ≤ 1000) → ∀ p, Btw σ.ns.length p → p.left = ba (wh ls ++ M) → p.number + ls.length < 100 → (∀ i, p.number < i → i ≤ p.number + ls.length → ok i) → p.count + cnt ct (p.number + 1) ls ≤ 190000 → (wh ls ++ M).length ≤ 90000 →
      (∀ p', Btw σ.ns.length p' → p'.left = ba M → p'.ended = p.ended → p'.number = p.number + ls.length → p'.out = p.out ++ told tl (p.number + 1) ls → p'.count = p.count + cnt ct (p.number + 1) ls → ∃ n p2, RunP w0 mb sb db n p' p2 ∧ Q p2) → ∃ n p2, RunP w0 mb sb db n p p2 ∧ Q p2
  | [], _, p, hb, hl, _, _, _, _, hK => hK p hb (by rw [hl]; rfl) rfl (by simp) (by simp [told]) (by simp [cnt])
  | l :: ls, hls, p, hb, hl, hn, hok, hc, h9, hK => by
    have e : wh (l :: ls) ++ M = l ++ 10 :: (wh ls ++ M) := by simp [wh]
    rw [e] at hl h9
    rw [List.length_append, List.length_cons] at h9
    rw [List.length_cons] at hn hok
    have hl1 := hls l (by simp)
    have hbeg := hb.beg l (wh ls ++ M)
    obtain ⟨q, hlk, hcy⟩ := hd w0 mb sb db lo hi hs _ _ _ hbeg (hok _ (by omega) (by omega)) (by omega) hl1.2 (by show p.count + ct (p.number + 1) l ≤ _; simp only [cnt] at hc; omega)
    have qn : q.number = p.number + 1 := hcy.number
    have qc : q.count = p.count + ct (p.number + 1) l := hcy.count
    have qo : q.out = p.out ++ tl (p.number + 1) l := hcy.out
    have qe : q.ended = p.ended := hcy.ended
    obtain ⟨n, p2, hr, hQ⟩ := run_to hd hs (M := M) (Q := Q) ls (fun l hl => hls l (by simp [hl])) q hcy.btw hcy.left (by omega) (fun i h1 h2 => hok i (by omega) (by omega)) (by rw [qc, qn]; simp only [cnt] at hc; omega) (by rw [List.length_append] at h9 ⊢; omega) (fun p' b' l' e' n' o' c' => hK p' b' l' (e'.trans qe) (by rw [n', qn]; simp; omega) (by rw [o', qo, qn, told, List.append_assoc]) (by rw [c', qc, qn, cnt]; omega))
    obtain ⟨m, hm⟩ := RunP.cycle hb.over (sup_line hb hl hl1.1 hl1.2 (by omega) (by omega)) hlk hr
    exact ⟨m, p2, hm, hQ⟩

theorem quit_past {c : List Value} {K : Nat} (hc : σ.cs = [c]) (hq : σ.quiet = false) (hA : AtNum σ c 113 K) : DoesIf (· ≠ K) σ (fun _ L => L ++ [10]) (fun _ L => L.length + 1) := by
  intro w0 mb sb db lo hi hs p k L hb hok hk hL hn
  have hz : p.space.size = L.length := by rw [hb.space, ba_size]
  have hd : p.space.data.toList = L := by rw [hb.space, ba_list]
  have o := hb.out
  have hn' : p.count + (L.length + 1) ≤ 190000 := hn
  refine ⟨p.on.endCycle σ.quiet, .more (look_past hs (by rw [hb.pc, hc]; rfl) hA (by rw [hb.steps]; omega) (by rw [hb.pc]; omega) deed_q (by rw [hb.number]; exact hok) (by omega)) hb.over hb.wants (.last (look_ends hs (by show p.pc + 1 = _; rw [hb.pc, hc]; rfl) (by show p.count + p.space.size + 1 ≤ _; omega) o hb.br)), ?_⟩
  rw [hq]
  refine ⟨⟨rfl, hb.over, hb.err, hb.status, hb.ahead, hb.br, ?_, hb.fb.up rfl (by show p.count ≤ p.count + p.space.size + 1; omega)⟩, rfl, rfl, rfl, ?_, ?_⟩
  · show (p.out ++ p.space.data.toList ++ [10]).length ≤ p.count + p.space.size + 1
    rw [hd, hz]; simp; omega
  · show p.out ++ p.space.data.toList ++ [10] = _
    rw [hd]; simp
  · show p.count + p.space.size + 1 = p.count + (L.length + 1)
    rw [hz]; omega

theorem told_wh (k : Nat) (ls : List (List UInt8)) : told (fun _ L => L ++ [10]) k ls = wh ls := by
  induction ls generalizing k with
  | nil => rfl
  | cons l ls ih => rw [told, ih]; simp [wh]
theorem cnt_wh (k : Nat) (ls : List (List UInt8)) : cnt (fun _ L => L.length + 1) k ls = (wh ls).length := by
  induction ls generalizing k with
  | nil => rfl
  | cons l ls ih => rw [cnt, ih]; simp [wh]; omega
theorem wh_app (a b : List (List UInt8)) : wh (a ++ b) = wh a ++ wh b := by simp [wh]
theorem wh_cons (a : List UInt8) (b : List (List UInt8)) : wh (a :: b) = a ++ 10 :: wh b := by simp [wh]

theorem acts_quit {c : List Value} {K : Nat} {A B : List (List UInt8)} {L : List UInt8} (hc : σ.cs = [c]) (hq : σ.quiet = false) (hA : AtNum σ c 113 K) (h8 : c[8]? = some (.int .i64 K)) (hls : ∀ l ∈ A ++ L :: B, (10 : UInt8) ∉ l ∧ l.length ≤ 1000) (hK : K = A.length + 1) (hn : A.length < 90) (h9 : (wh (A ++ L :: B)).length ≤ 90000) :
    Acts σ false (ba (wh (A ++ L :: B))) (wh (A ++ [L])) K := by
  intro w0 mb sb db lo hi hs
  have e : wh (A ++ L :: B) = wh A ++ (L ++ 10 :: wh B) := by rw [wh_app, wh_cons]
  have h9' := h9
  rw [e] at h9
  have hL := hls L (by simp)
  rw [List.length_append, List.length_append, List.length_cons] at h9
  obtain ⟨n, p1, hr, hQ⟩ := run_to (mb := mb) (db := db) (quit_past hc hq hA) hs (M := L ++ 10 :: wh B) (Q := fun p2 => p2.left = ba (wh B) ∧ p2.err = 0 ∧ p2.over = true ∧ p2.out = wh (A ++ [L]) ∧ p2.status = K) A (fun l hl => hls l (by simp [hl])) ({ pst0 false σ.ns.length σ.ranges with left := ba (wh (A ++ L :: B)) } : Pst) ⟨rfl, rfl, rfl, rfl, rfl, rfl, Nat.le_refl _, fbs0 _ _ _ _⟩ (by rw [← e]) (by show 0 + A.length < 100; omega) (fun i h1 h2 => by have h2' : i ≤ 0 + A.length := h2; omega) (by rw [cnt_wh]; show 0 + _ ≤ _; omega) (by rw [← e]; exact h9') (fun p' b' l' e' n' o' c' => by
    have n0 : p'.number = A.length := by rw [n']; show 0 + A.length = _; omega
    have c0 : p'.count = (wh A).length := by rw [c', cnt_wh]; show 0 + _ = _; omega
    have o0 : p'.out = wh A := by rw [o', told_wh]; show [] ++ wh A = _; simp
    have hbeg := b'.beg L (wh B)
    refine (RunP.cycle (n := 0) (p2 := ((p'.line L (wh B)).on).endAll σ.quiet K) b'.over (sup_line b' l' hL.1 hL.2 (by omega) (by omega)) (.last (look_at (p3 := ((p'.line L (wh B)).on).endAll σ.quiet K) hs (by rw [hc]; rfl) hA (by show (0 : Nat) < 2000; omega) (by show (0 : Nat) < 2000; omega) enters_q deed_q (by show p'.number + 1 = K; omega) (fun w2 s2 g m2 e2 hcell => ?_))) (.over rfl)).elim fun m hm => ⟨m, _, hm, by rw [hq]; rfl, by rw [hq]; exact b'.err, rfl, ?_, rfl⟩
    · have es : s2.space = ba L := congrArg Pst.space e2
      have := quit_v (ca := g) (co := (p'.line L (wh B)).pc * 23) m2 hs (room_of e2 (by rw [es, ba_size]; show p'.count + L.length + 1 ≤ _; omega) b'.out b'.br) (hcell 8 _ h8)
      rw [e2] at this
      exact this
    · rw [hq]
      show p'.out ++ (ba L).data.toList ++ [10] = _
      rw [ba_list, o0, wh_app]
      simp [wh])
  obtain ⟨q1, q2, q3, q4, q5⟩ := hQ
  exact ⟨n, p1, hr, by rw [q1, ba_size]; omega, q2, .inl ⟨q3, q4, q5⟩⟩

theorem acts_noquit {c : List Value} {K : Nat} {ls : List (List UInt8)} (hc : σ.cs = [c]) (hq : σ.quiet = false) (hA : AtNum σ c 113 K) (hls : ∀ l ∈ ls, (10 : UInt8) ∉ l ∧ l.length ≤ 1000) (hK : ls.length < K) (hn : ls.length < 90) (h9 : (wh ls).length ≤ 90000) :
    Acts σ false (ba (wh ls)) (wh ls) 0 := by
  intro w0 mb sb db lo hi hs
  obtain ⟨n, p1, hr, b', l', o'⟩ := run_to (mb := mb) (db := db) (quit_past hc hq hA) hs (M := []) (Q := fun p2 => Btw σ.ns.length p2 ∧ p2.left = ba [] ∧ p2.out = wh ls) ls hls ({ pst0 false σ.ns.length σ.ranges with left := ba (wh ls) } : Pst) ⟨rfl, rfl, rfl, rfl, rfl, rfl, Nat.le_refl _, fbs0 _ _ _ _⟩ (by simp) (by show 0 + ls.length < 100; omega) (fun i h1 h2 => by have h2' : i ≤ 0 + ls.length := h2; omega) (by rw [cnt_wh]; show 0 + _ ≤ _; omega) (by simpa using h9) (fun p' b' l' e' n' o' c' => ⟨0, p', run_dry b' l' (by simp) (by simp) (.inr rfl), b', l', by rw [o', told_wh]; show [] ++ wh ls = _; simp⟩)
  refine ⟨n, p1, hr, by rw [l', ba_size]; simp, b'.err, .inr ⟨b'.over, 0, _, run_dry (p := { p1.replied with ended := true }) (L := []) ⟨b'.wants, b'.over, b'.err, b'.status, b'.ahead, b'.br, Nat.zero_le _, b'.fb.up rfl (Nat.le_refl _)⟩ ?_ (by simp) (by simp) (.inr rfl), ?_, b'.err, b'.status, ?_⟩⟩
  · show (if p1.over then (⟨#[]⟩ : ByteArray) else p1.left) = _
    rw [b'.over, l']; rfl
  · show (if p1.over then (⟨#[]⟩ : ByteArray) else p1.left).size ≤ _
    rw [b'.over, l']
    show (ba []).size ≤ _
    rw [ba_size]; simp
  · rw [o']
    show wh ls ++ [] = _
    simp
end
end Go.Proofs.YtonnimbcekhbgaaGreatDoor
