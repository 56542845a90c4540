/- What some scripts do with lines. -/
import Derived.Test.YtonnimbcekhbgaaGreatDoorFG
namespace Go.Proofs.YtonnimbcekhbgaaGreatDoor
open Go.RowKit

section
variable {w0 w w' : World} {mb sb db lo hi : Nat} {s s' : Mst} {σ : Sst}

theorem fbs0 (ah : Bool) (nf nr : Nat) (l : ByteArray) : Fbs nf ({ pst0 ah nf nr with left := l } : Pst) := ⟨by simp [pst0, mst0, Mst.p], fun i bs h => by
  simp only [pst0, mst0, Mst.p, List.getElem?_replicate] at h
  split at h
  · injection h with h; subst h; exact Nat.zero_le _
  · cases h⟩
theorem wh_len (ls : List (List UInt8)) : ∀ l ∈ ls, l.length ≤ (wh ls).length := fun l hl => by
  induction ls with
  | nil => cases hl
  | cons a ls ih =>
    rw [show wh (a :: ls) = (a ++ [10]) ++ wh ls by simp [wh], List.length_append, List.length_append]
    rcases List.mem_cons.1 hl with q | q
    · subst q; omega
    · have := ih q; omega

/-- Lines with their newlines, fed at once. -/
theorem acts_whole {tl : Nat → List UInt8 → List UInt8} {ct : Nat → List UInt8 → Nat} {ls : List (List UInt8)} (hd : Does σ tl ct) (hls : ∀ l ∈ ls, (10 : UInt8) ∉ l ∧ l.length ≤ 1000) (hn : ls.length < 99) (hc : cnt ct 1 ls ≤ 190000) (h9 : (wh ls).length ≤ 90000) : Acts σ false (ba (wh ls)) (told tl 1 ls) 0 := by
  intro w0 mb sb db lo hi hs
  obtain ⟨n, p', hr, b', l', e', _, o', _⟩ := run_lines (mb := mb) (db := db) hd hs (M := []) (by simp) (by simp) ls hls ({ pst0 false σ.ns.length σ.ranges with left := ba (wh ls) } : Pst) ⟨rfl, rfl, rfl, rfl, rfl, rfl, Nat.le_refl _, fbs0 _ _ _ _⟩ (by simp) (.inl rfl) (by show 0 + ls.length < 100; omega) (by show 0 + cnt ct (0 + 1) ls ≤ _; simpa using hc) (by simpa using h9)
  refine ⟨n, p', hr, by rw [l', ba_size]; simp, b'.err, .inr ⟨b'.over, 0, _, run_dry (p := { p'.replied with ended := true }) (L := []) ⟨b'.wants, b'.over, b'.err, b'.status, b'.ahead, b'.br, Nat.zero_le _, b'.fb.up rfl (Nat.le_refl _)⟩ ?_ (by simp) (by simp) (.inr rfl), ?_, b'.err, b'.status, ?_⟩⟩
  · show (if p'.over then (⟨#[]⟩ : ByteArray) else p'.left) = _
    rw [b'.over, l']; rfl
  · show (if p'.over then (⟨#[]⟩ : ByteArray) else p'.left).size ≤ _
    rw [b'.over, l']
    show (ba []).size ≤ _
    rw [ba_size]; simp
  · rw [o']
    show ([] ++ told tl (0 + 1) ls) ++ [] = _
    simp

/-- .. and without the last newline. -/
theorem acts_cut {tl : Nat → List UInt8 → List UInt8} {ct : Nat → List UInt8 → Nat} {ls : List (List UInt8)} {M : List UInt8} (hd : Does σ tl ct) (hls : ∀ l ∈ ls ++ [M], (10 : UInt8) ∉ l ∧ l.length ≤ 1000) (hM : M ≠ []) (hn : ls.length < 98) (hc : cnt ct 1 ls + ct (ls.length + 1) M ≤ 190000) (h9 : (wh ls ++ M).length ≤ 90000) :
    Acts σ false (ba (wh ls ++ M)) (told tl 1 ls ++ tl (ls.length + 1) M) 0 := by
  intro w0 mb sb db lo hi hs
  have hm := hls M (by simp)
  obtain ⟨n, p', hr, b', l', e', n', o', c'⟩ := run_lines (mb := mb) (db := db) hd hs (M := M) hm.1 hm.2 ls (fun l hl => hls l (by simp [hl])) ({ pst0 false σ.ns.length σ.ranges with left := ba (wh ls ++ M) } : Pst) ⟨rfl, rfl, rfl, rfl, rfl, rfl, Nat.le_refl _, fbs0 _ _ _ _⟩ rfl (.inl rfl) (by show 0 + ls.length < 100; omega) (by show 0 + cnt ct (0 + 1) ls ≤ _; rw [Nat.zero_add, Nat.zero_add]; omega) h9
  have n0 : p'.number = ls.length := by rw [n']; show 0 + ls.length = _; omega
  have c0 : p'.count = cnt ct 1 ls := by rw [c']; show 0 + cnt ct (0 + 1) ls = _; simp
  obtain ⟨q, hq⟩ : ∃ q : Pst, q = { p'.replied with ended := true } := ⟨_, rfl⟩
  have bq : Btw σ.ns.length q := by rw [hq]; exact ⟨b'.wants, b'.over, b'.err, b'.status, b'.ahead, b'.br, Nat.zero_le _, b'.fb.up rfl (Nat.le_refl _)⟩
  have lq : q.left = ba M := by
    rw [hq]
    show (if p'.over then (⟨#[]⟩ : ByteArray) else p'.left) = _
    rw [b'.over, l']; rfl
  have nq : q.number = ls.length := by rw [hq]; exact n0
  have cq : q.count = cnt ct 1 ls := by rw [hq]; exact c0
  have oq : q.out = [] := by rw [hq]; rfl
  have eq : q.ended = true := by rw [hq]
  have hbeg := bq.beg M []
  obtain ⟨p2, hlk, hcy⟩ := hd w0 mb sb db lo hi hs _ _ _ hbeg (by omega) hm.2 (by show q.count + ct (q.number + 1) M ≤ _; rw [cq, nq]; exact hc)
  have l2 : p2.left = ba [] := hcy.left
  obtain ⟨m, hm2⟩ := RunP.cycle bq.over (sup_last bq lq hm.1 hm.2 hM eq (by omega)) hlk (run_dry hcy.btw l2 (by simp) (by simp) (.inr rfl))
  refine ⟨n, p', hr, by rw [l', ba_size]; have := hm.2; omega, b'.err, .inr ⟨b'.over, m, p2, by rw [← hq]; exact hm2, by rw [l2, ba_size]; simp, hcy.btw.err, hcy.btw.status, ?_⟩⟩
  have o2 : p2.out = q.out ++ tl (q.number + 1) M := hcy.out
  rw [o', o2, oq, nq]
  show ([] ++ told tl (0 + 1) ls) ++ ([] ++ tl (ls.length + 1) M) = _
  simp

theorem room_of {p : Pst} {t : ByteArray} (hp : s.p = p) (h1 : p.count + t.size + 1 ≤ 200000) (h2 : p.out.length ≤ p.count) (h3 : p.br = []) : Room s t :=
  ⟨by rw [show s.count = p.count from congrArg Pst.count hp]; exact h1, by rw [show s.r.out = p.out from congrArg Pst.out hp, show s.count = p.count from congrArg Pst.count hp]; exact h2, (congrArg Pst.br hp).trans h3⟩

theorem look_ends {p : Pst} (hs : Scr lo hi w0 sb 0 σ) (hpc : p.pc = σ.cs.length) (h1 : p.count + p.space.size + 1 ≤ 200000) (h2 : p.out.length ≤ p.count) (h3 : p.br = []) : Look w0 mb sb db p (p.endCycle σ.quiet) := fun w s hM hp => by
  have e : s.space = p.space := congrArg Pst.space hp
  have := look_end hM hs (by rw [e]; exact room_of hp h1 h2 h3) (by rw [show s.pc = p.pc from congrArg Pst.pc hp]; exact hpc)
  rw [hp] at this
  exact this

/-- A command without an address is done. -/
theorem look_does {p p3 : Pst} {c : List Value} {x i f ca : Nat} {A : Option Addr} (hs : Scr lo hi w0 sb 0 σ) (hc : σ.cs[p.pc]? = some c) (hx : c[3]? = some (.int .u8 x)) (hnt : c[2]? = some (.bool false)) (h0 : c[0]? = some (.slice A 0 ca))
    (ht : Instr.findNow (.int .u8) (.int .u8 x) (tabE 0 deedsL) 0 = some (some (i, .func (.func f) #[] #[]))) (hst : p.steps < 2000) (hpc : p.pc < 2000) (hen : Enters f)
    (hD : ∀ w2 s2 g, Mac w0 w2 mb sb db s2 → s2.p = ({ p with pc := p.pc + 1, steps := p.steps + 1 } : Pst) → Calls Tryz.prog f #[.pointer (some ⟨mb, 0, none⟩), .pointer (some ⟨g, p.pc * 23, none⟩)] w2 fun r w' => r = .returned (.tuple #[]) ∧ Goes w0 mb sb db w2 s2 w' p3) : Look w0 mb sb db p p3 := fun w s hM hp => by
  have e1 : s.pc = p.pc := congrArg Pst.pc hp
  have e2 : s.steps = p.steps := congrArg Pst.steps hp
  obtain ⟨g, cap, hv, _⟩ := hs.cmd hc
  refine look_do (b := true) (p2 := { p with pc := p.pc + 1, steps := p.steps + 1 }) hM hs (by rw [e1]; exact hc) hv hx hnt ht (by omega) (by omega) hen (fun w1 s1 m1 q1 => ?_) rfl (fun w2 s2 m2 q2 => by rw [e1]; exact hD w2 s2 g m2 q2)
  have q1' : s1.p = ({ p with pc := p.pc + 1, steps := p.steps + 1 } : Pst) := by rw [q1, hp, e1, e2]
  rw [← q1', e1]
  obtain ⟨g', cap', hv', hcell⟩ := (hs.keep m1.r.kp (fun _ e => by cases e)).cmd hc
  obtain rfl : g' = g := by rw [hv] at hv'; injection hv' with e _ _; injection e with e; injection e with e; exact e.symm
  exact addressed_none m1 (hcell 0 _ h0)
end
end Go.Proofs.YtonnimbcekhbgaaGreatDoor
