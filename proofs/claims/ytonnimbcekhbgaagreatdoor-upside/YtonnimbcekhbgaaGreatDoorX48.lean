/- What the claim needs of: HL FS. -/
import Derived.Test.YtonnimbcekhbgaaGreatDoorX47
import Derived.Test.YtonnimbcekhbgaaGreatDoorX21
import Derived.Deep.Cut
import Derived.Deep.CutRange

/- HL. -/
namespace Go.Proofs.YtonnimbcekhbgaaGreatDoor
open Go.RowKit

section
variable {w0 w w' : World} {mb sb db lo hi : Nat} {σ : Sst} {p : Pst}

theorem wh_snoc (ls : List (List UInt8)) (M : List UInt8) : wh (ls ++ [M]) = wh ls ++ (M ++ [10]) := by simp [wh]
/-- Lines that may come. -/
abbrev Lin (l : List UInt8) : Prop := (10 : UInt8) ∉ l ∧ l.length ≤ 1000

/-- What is held behind lines. -/
def upH : Nat → List UInt8 → List (List UInt8) → List UInt8
  | _, H, [] => H
  | k, H, l :: ls => upH (k + 1) (if k + 1 = 1 then l else l ++ 10 :: H) ls
theorem upH_snoc (M : List UInt8) : ∀ (ls : List (List UInt8)) (k : Nat) (H : List UInt8), upH k H (ls ++ [M]) = if k + ls.length + 1 = 1 then M else M ++ 10 :: upH k H ls
  | [], k, H => rfl
  | l :: ls, k, H => by
    show upH (k + 1) _ (ls ++ [M]) = _
    rw [upH_snoc M ls, List.length_cons, show k + 1 + ls.length = k + (ls.length + 1) by omega]
    rfl

theorem upH_le (k : Nat) (l H : List UInt8) : (if k + 1 = 1 then l else l ++ 10 :: H).length ≤ l.length + 1 + H.length := by
  split
  · omega
  · simp; omega

theorem run_a (hs : Scr lo hi w0 sb 0 σ) (hF : FactsA σ) {M : List UInt8} (hM : Lin M) : ∀ (ls : List (List UInt8)), (∀ l ∈ ls, Lin l) → ∀ (p : Pst) (k : Nat) (H sp : List UInt8) (pc st : Nat), MA p bwV (wh ls ++ (M ++ [10])) false k sp H pc st [] 0 → k + ls.length < 100 → H.length + (wh ls).length + M.length ≤ 3000 →
    ∃ p' sp' pc' st', Rn w0 mb sb db p p' ∧ MA p' bwV (M ++ [10]) false (k + ls.length) sp' (upH k H ls) pc' st' [] 0
  | [], _, p, k, H, sp, pc, st, h, _, _ => ⟨p, sp, pc, st, dry_bw h hM.1 hM.2, h⟩
  | l :: ls, hl, p, k, H, sp, pc, st, h, hk, hb => by
    obtain ⟨c0, c1, c2, hcs, hA0, hP1, hA2⟩ := hF.ex
    have hl1 := hl l (by simp)
    rw [wh_cons, List.length_append, List.length_cons] at hb
    rw [List.length_cons] at hk
    rw [wh_cons, List.append_assoc, List.cons_append] at h
    obtain ⟨hs1, m1⟩ := su_more (w0 := w0) (mb := mb) (sb := sb) (db := db) h hl1.1 hl1.2 (by simp; omega) (by simp) (by omega)
    obtain ⟨p2, l2, m2⟩ := lkG (mb := mb) (db := db) hs m1 (d := c0) (by rw [hcs]; rfl) hA0 (by omega) (by omega) (by omega)
    obtain ⟨p3, l3, m3⟩ := lkH (mb := mb) (db := db) hs m2 (d := c1) (by rw [hcs]; rfl) hP1 (by omega) (by omega)
    obtain ⟨p4, l4, m4⟩ := lkD (mb := mb) (db := db) hs m3 (d := c2) (by rw [hcs]; rfl) hA2 (by omega) (by omega) (by simp)
    have hH := upH_le k l H
    obtain ⟨p', sp', pc', st', hr, m'⟩ := run_a hs hF hM ls (fun l hm => hl l (by simp [hm])) p4 (k + 1) _ _ _ _ m4 (by omega) (by omega)
    refine ⟨p', sp', pc', st', Rn.sup h.u.over hs1 l2 (Rn.on m2.u.over m2.wants l3 (Rn.on m3.u.over m3.wants l4 hr)), ?_⟩
    rw [show k + 1 + ls.length = k + (l :: ls).length by simp; omega] at m'
    exact m'

theorem end_a (hs : Scr lo hi w0 sb 0 σ) (hF : FactsA σ) {M H sp : List UInt8} {k pc st : Nat} (hM : Lin M) (h : MA p bwV (M ++ [10]) true k sp H pc st [] 0) (hk : k < 100) (hb : H.length + M.length ≤ 3000) :
    ∃ p' sp' H' pc' st' c', Rn w0 mb sb db p p' ∧ MA p' bwV [] true (k + 1) sp' H' pc' st' ((if k + 1 = 1 then M else M ++ 10 :: H) ++ [10]) c' := by
  obtain ⟨c0, c1, c2, hcs, hA0, hP1, hA2⟩ := hF.ex
  obtain ⟨hs1, m1⟩ := su_end (w0 := w0) (mb := mb) (sb := sb) (db := db) (R := []) h hM.1 hM.2 (by simp) (by omega)
  obtain ⟨p2, l2, m2⟩ := lkG (mb := mb) (db := db) hs m1 (d := c0) (by rw [hcs]; rfl) hA0 (by omega) (by omega) (by omega)
  obtain ⟨p3, l3, m3⟩ := lkH (mb := mb) (db := db) hs m2 (d := c1) (by rw [hcs]; rfl) hP1 (by omega) (by omega)
  obtain ⟨p4, l4, m4⟩ := lkLast (mb := mb) (db := db) hs m3 (d := c2) (by rw [hcs]; rfl) hA2 (by omega) (by omega) deed_d (by omega) (by simp)
  have hH := upH_le k M H
  obtain ⟨p5, l5, m5⟩ := lkEnd (mb := mb) (db := db) hs hF.quiet m4 (by rw [hcs]; rfl) (by omega)
  exact ⟨p5, _, _, _, _, _, Rn.sup h.u.over hs1 l2 (Rn.on m2.u.over m2.wants l3 (Rn.on m3.u.over m3.wants l4 (Rn.on m4.u.over m4.wants l5 (dry_end m5)))), m5⟩

/-- The beginning; and behind what was fed, where the input ends. -/
theorem MA.start (nf nr : Nat) (l : List UInt8) : MA ({ pst0 true nf nr with left := ba l } : Pst) bwV l false 0 [] [] 0 0 [] 0 := ⟨⟨rfl, rfl, rfl, rfl, rfl, Nat.le_refl _⟩, rfl, rfl, rfl, rfl, rfl, rfl, rfl, rfl, rfl, rfl⟩
theorem MA.ends {wv : Value} {left sp H o : List UInt8} {num pc st c : Nat} (h : MA p wv left false num sp H pc st o c) : MA ({ p.replied with ended := true } : Pst) wv left true num sp H pc st [] c :=
  ⟨⟨h.u.over, h.u.err, h.u.status, h.u.ahead, h.u.br, Nat.zero_le _⟩, h.wants, by show (if p.over then (⟨#[]⟩ : ByteArray) else p.left) = _; rw [h.u.over]; exact h.left, rfl, h.number, h.space, h.held, h.pc, h.steps, rfl, h.count⟩

theorem acts_of {input o1 o2 o : List UInt8} (h : ∀ (w0 : World) (mb sb db lo hi : Nat), Scr lo hi w0 sb 0 σ → ∃ p1 wv l1 n1 s1 H1 pc1 st1 c1, Rn w0 mb sb db ({ pst0 true σ.ns.length σ.ranges with left := ba input } : Pst) p1 ∧ MA p1 wv l1 false n1 s1 H1 pc1 st1 o1 c1 ∧ l1.length ≤ 3000 ∧
      ∃ p2 n2 s2 H2 pc2 st2 c2, Rn w0 mb sb db ({ p1.replied with ended := true } : Pst) p2 ∧ MA p2 bwV [] true n2 s2 H2 pc2 st2 o2 c2) (ho : o1 ++ o2 = o) : Acts σ true (ba input) o 0 := by
  intro w0 mb sb db lo hi hs
  obtain ⟨p1, wv, l1, n1, s1, H1, pc1, st1, c1, ⟨n, hr⟩, m1, hl, p2, n2, s2, H2, pc2, st2, c2, ⟨m, hr2⟩, m2⟩ := h w0 mb sb db lo hi hs
  exact ⟨n, p1, hr, by rw [m1.left, ba_size]; omega, m1.u.err, .inr ⟨m1.u.over, m, p2, hr2, by rw [m2.left, ba_size]; simp, m2.u.err, m2.u.status, by rw [m1.out, m2.out]; exact ho⟩⟩

theorem acts_a (hF : FactsA σ) {M : List UInt8} {ls : List (List UInt8)} (hl : ∀ l ∈ ls ++ [M], Lin l) (hn : ls.length ≤ 20) (hw : (wh (ls ++ [M])).length ≤ 2000) : Acts σ true (ba (wh (ls ++ [M]))) (upH 0 [] (ls ++ [M]) ++ [10]) 0 := by
  have hM := hl M (by simp)
  have hb : (wh ls).length + (M.length + 1) ≤ 2000 := by rw [wh_snoc, List.length_append, List.length_append] at hw; exact hw
  have hH : ∀ (ls : List (List UInt8)) (k : Nat) (H : List UInt8), (upH k H ls).length ≤ H.length + (wh ls).length := by
    intro ls
    induction ls with
    | nil => intro k H; exact Nat.le_add_right _ _
    | cons l ls ih =>
      intro k H
      have := ih (k + 1) (if k + 1 = 1 then l else l ++ 10 :: H)
      have h2 := upH_le k l H
      rw [wh_cons, List.length_append, List.length_cons]
      show (upH (k + 1) _ ls).length ≤ _
      omega
  refine acts_of (o1 := []) (o2 := upH 0 [] (ls ++ [M]) ++ [10]) (fun w0 mb sb db lo hi hs => ?_) rfl
  have m0 := MA.start σ.ns.length σ.ranges (wh (ls ++ [M]))
  have m0' := m0
  rw [wh_snoc] at m0'
  obtain ⟨p1, sp1, pc1, st1, r1, m1⟩ := run_a (mb := mb) (db := db) hs hF hM ls (fun l hm => hl l (by simp [hm])) _ 0 [] [] 0 0 m0' (by omega) (by simp; omega)
  rw [← wh_snoc] at r1
  have hu := hH ls 0 []
  simp at hu
  obtain ⟨p2, sp2, H2, pc2, st2, c2, r2, m2⟩ := end_a (mb := mb) (db := db) hs hF hM m1.ends (by omega) (by omega)
  rw [upH_snoc]
  exact ⟨p1, _, _, _, _, _, _, _, _, r1, m1, by simp; omega, p2, _, _, _, _, _, _, r2, m2⟩

/-- Lines, two by two. -/
def pairsF : List (List UInt8) → List UInt8
  | [] => []
  | [l] => l ++ [10]
  | l :: m :: r => l ++ 43 :: m ++ [10] ++ pairsF r
theorem pairsF_len : ∀ ls : List (List UInt8), (pairsF ls).length ≤ (wh ls).length
  | [] => Nat.le_refl _
  | [l] => by simp [pairsF, wh]
  | l :: m :: r => by
    have := pairsF_len r
    rw [wh_cons, wh_cons]
    simp [pairsF]
    omega

theorem run_c (hs : Scr lo hi w0 sb 0 σ) (hF : FactsC σ) : ∀ (n : Nat) (ls : List (List UInt8)), ls.length ≤ n → ls ≠ [] → (∀ l ∈ ls, Lin l) → ∀ (p : Pst) (k : Nat) (sp H : List UInt8) (pc st : Nat) (o : List UInt8) (c : Nat), MA p bwV (wh ls) false k sp H pc st o c → k + ls.length < 100 → (wh ls).length ≤ 3000 → c + (wh ls).length ≤ 100000 →
    ∃ p' o' c' k' sp' pc' st', Rn w0 mb sb db p p' ∧ c' ≤ 100000 ∧ k' < 100 ∧ ((∃ l, Lin l ∧ MA p' bwV (l ++ [10]) false k' sp' H pc' st' o' c' ∧ o ++ pairsF ls = o' ++ pairsF [l]) ∨ (∃ m, Lin sp' ∧ Lin m ∧ MA p' gmV (m ++ [10]) false k' sp' H 1 st' o' c' ∧ st' ≤ 10 ∧ o ++ pairsF ls = o' ++ pairsF [sp', m]))
  | 0, ls, hn, h0, _, _, _, _, _, _, _, _, _, _, _, _, _ => absurd (List.eq_nil_of_length_eq_zero (by omega)) h0
  | n + 1, ls, hn, h0, hl, p, k, sp, H, pc, st, o, c, h, hk, hb, hc => by
    obtain ⟨c0, c1, hcs, hA0, hS1⟩ := hF.ex
    match ls, hn, h0, hl, h, hk, hb, hc with
    | [l], _, _, hl, h, hk, hb, hc =>
      have hl1 := hl l (by simp)
      have e : wh [l] = l ++ [10] := by simp [wh]
      rw [e] at h
      exact ⟨p, o, c, k, sp, pc, st, dry_bw h hl1.1 hl1.2, by omega, by omega, .inl ⟨l, hl1, h, rfl⟩⟩
    | l :: m :: r, hn, _, hl, h, hk, hb, hc =>
      have hl1 := hl l (by simp)
      have hl2 := hl m (by simp)
      rw [wh_cons, wh_cons] at h hb hc
      simp only [List.length_append, List.length_cons] at hb hc hk hn
      obtain ⟨hs1, m1⟩ := su_more (w0 := w0) (mb := mb) (sb := sb) (db := db) h hl1.1 hl1.2 (by simp; omega) (by simp) (by omega)
      obtain ⟨p2, l2, m2⟩ := lkN (mb := mb) (db := db) hs m1 (d := c0) (by rw [hcs]; rfl) (.inl hA0) (by omega) (by omega) (by simp)
      cases r with
      | nil =>
        have m2' : MA p2 gmV (m ++ [10]) false (k + 1) l H 1 1 o c := m2
        exact ⟨p2, o, c, k + 1, l, 1, 1, Rn.sup h.u.over hs1 l2 (dry_gm m2' hl2.1 hl2.2), by omega, by omega, .inr ⟨m, hl1, hl2, m2', by omega, rfl⟩⟩
      | cons a r =>
        obtain ⟨hs3, m3⟩ := sg_more (w0 := w0) (mb := mb) (sb := sb) (db := db) m2 hl2.1 hl2.2 (by omega) (by rw [wh_cons]; simp) (by omega) (by omega)
        obtain ⟨p4, l4, m4⟩ := lkS (mb := mb) (db := db) hs m3 (d := c1) (by rw [hcs]; rfl) hS1 (by omega) (by omega) (by simp; omega)
        rw [repN_one hl1.1 hl2.1] at m4
        obtain ⟨p5, l5, m5⟩ := lkEnd (mb := mb) (db := db) hs hF.quiet m4 (by rw [hcs]; rfl) (by simp; omega)
        have hcc : c + (l ++ 43 :: m).length + 1 = c + l.length + m.length + 2 := by simp; omega
        obtain ⟨p', o', c', k', sp', pc', st', hr, hc', hk', hcase⟩ := run_c hs hF n (a :: r) (by simp at hn ⊢; omega) (by simp) (fun x hx => hl x (by simp at hx ⊢; rcases hx with e | e <;> simp [e])) p5 (k + 1 + 1) _ _ _ _ _ _ m5 (by simp at hk ⊢; omega) (by omega) (by rw [hcc]; omega)
        refine ⟨p', o', c', k', sp', pc', st', Rn.sup h.u.over hs1 l2 (Rn.sup m2.u.over hs3 l4 (Rn.on m4.u.over m4.wants l5 hr)), hc', hk', ?_⟩
        have e : o ++ pairsF (l :: m :: a :: r) = o ++ (l ++ 43 :: m) ++ [10] ++ pairsF (a :: r) := by
          show o ++ (l ++ 43 :: m ++ [10] ++ pairsF (a :: r)) = _
          simp
        rw [e]
        exact hcase

theorem end_c (hs : Scr lo hi w0 sb 0 σ) (hF : FactsC σ) {l H sp : List UInt8} {k pc st c : Nat} (hl : Lin l) (h : MA p bwV (l ++ [10]) true k sp H pc st [] c) (hk : k < 100) (hc : c ≤ 100000) :
    ∃ p' n' sp' H' pc' st' c', Rn w0 mb sb db p p' ∧ MA p' bwV [] true n' sp' H' pc' st' (pairsF [l]) c' := by
  obtain ⟨c0, c1, hcs, hA0, hS1⟩ := hF.ex
  obtain ⟨hs1, m1⟩ := su_end (w0 := w0) (mb := mb) (sb := sb) (db := db) (R := []) h hl.1 hl.2 (by simp) (by omega)
  obtain ⟨p2, l2, m2⟩ := lkLast (mb := mb) (db := db) hs m1 (d := c0) (by rw [hcs]; rfl) hA0 (by omega) (by omega) deed_N (by omega) (by simp)
  obtain ⟨p3, l3, m3⟩ := lkS (mb := mb) (db := db) hs m2 (d := c1) (by rw [hcs]; rfl) hS1 (by omega) (by omega) (by have := hl.2; omega)
  rw [repN_none hl.1] at m3
  obtain ⟨p4, l4, m4⟩ := lkEnd (mb := mb) (db := db) hs hF.quiet m3 (by rw [hcs]; rfl) (by have := hl.2; omega)
  exact ⟨p4, _, _, _, _, _, _, Rn.sup h.u.over hs1 l2 (Rn.on m2.u.over m2.wants l3 (Rn.on m3.u.over m3.wants l4 (dry_end m4))), m4⟩
theorem end_c2 (hs : Scr lo hi w0 sb 0 σ) (hF : FactsC σ) {m H sp : List UInt8} {k st c : Nat} (hm : Lin m) (hsp : Lin sp) (h : MA p gmV (m ++ [10]) true k sp H 1 st [] c) (hk : k < 100) (hst : st ≤ 10) (hc : c ≤ 100000) :
    ∃ p' n' sp' H' pc' st' c', Rn w0 mb sb db p p' ∧ MA p' bwV [] true n' sp' H' pc' st' (pairsF [sp, m]) c' := by
  obtain ⟨c0, c1, hcs, hA0, hS1⟩ := hF.ex
  have h1 := hm.2
  have h2 := hsp.2
  obtain ⟨hs1, m1⟩ := sg_end (w0 := w0) (mb := mb) (sb := sb) (db := db) (R := []) h hm.1 hm.2 (by simp) (by omega) (by omega)
  obtain ⟨p3, l3, m3⟩ := lkS (mb := mb) (db := db) hs m1 (d := c1) (by rw [hcs]; rfl) hS1 (by omega) (by omega) (by simp; omega)
  rw [repN_one hsp.1 hm.1] at m3
  obtain ⟨p4, l4, m4⟩ := lkEnd (mb := mb) (db := db) hs hF.quiet m3 (by rw [hcs]; rfl) (by simp; omega)
  have e : [] ++ (sp ++ 43 :: m) ++ [10] = pairsF [sp, m] := by simp [pairsF]
  rw [e] at m4
  exact ⟨p4, _, _, _, _, _, _, Rn.sup h.u.over hs1 l3 (Rn.on m3.u.over m3.wants l4 (dry_end m4)), m4⟩

theorem acts_c (hF : FactsC σ) {ls : List (List UInt8)} (h0 : ls ≠ []) (hl : ∀ l ∈ ls, Lin l) (hn : ls.length ≤ 20) (hw : (wh ls).length ≤ 2000) : Acts σ true (ba (wh ls)) (pairsF ls) 0 := by
  intro w0 mb sb db lo hi hs
  obtain ⟨p', o', c', k', sp', pc', st', r1, hc', hk', hcase⟩ := run_c (mb := mb) (db := db) hs hF ls.length ls (Nat.le_refl _) h0 hl _ 0 [] [] 0 0 [] 0 (MA.start σ.ns.length σ.ranges (wh ls)) (by omega) (by omega) (by omega)
  obtain ⟨n, hr⟩ := r1
  rcases hcase with ⟨l, hl1, m1, e⟩ | ⟨m, hsp, hm, m1, hst, e⟩
  · obtain ⟨p2, _, _, _, _, _, _, ⟨n2, hr2⟩, m2⟩ := end_c (mb := mb) (db := db) hs hF hl1 m1.ends (by omega) hc'
    exact ⟨n, p', hr, by rw [m1.left, ba_size]; have := hl1.2; simp; omega, m1.u.err, .inr ⟨m1.u.over, n2, p2, hr2, by rw [m2.left, ba_size]; simp, m2.u.err, m2.u.status, by rw [m1.out, m2.out, ← e]; rfl⟩⟩
  · obtain ⟨p2, _, _, _, _, _, _, ⟨n2, hr2⟩, m2⟩ := end_c2 (mb := mb) (db := db) hs hF hm hsp m1.ends (by omega) hst hc'
    exact ⟨n, p', hr, by rw [m1.left, ba_size]; have := hm.2; simp; omega, m1.u.err, .inr ⟨m1.u.over, n2, p2, hr2, by rw [m2.left, ba_size]; simp, m2.u.err, m2.u.status, by rw [m1.out, m2.out, ← e]; rfl⟩⟩

/-- All lines in one. -/
def joinN : List UInt8 → List (List UInt8) → List UInt8
  | sp, [] => sp
  | sp, l :: ls => joinN (sp ++ 10 :: l) ls
theorem joinN_snoc (M : List UInt8) : ∀ (ls : List (List UInt8)) (sp : List UInt8), joinN sp (ls ++ [M]) = joinN sp ls ++ 10 :: M
  | [], _ => rfl
  | l :: ls, sp => joinN_snoc M ls (sp ++ 10 :: l)
theorem joinN_len : ∀ (ls : List (List UInt8)) (sp : List UInt8), (joinN sp ls).length = sp.length + (wh ls).length
  | [], _ => rfl
  | l :: ls, sp => by
    show (joinN (sp ++ 10 :: l) ls).length = _
    rw [joinN_len ls, wh_cons]
    simp; omega

theorem run_b (hs : Scr lo hi w0 sb 0 σ) (hF : FactsB σ) {M : List UInt8} (hM : Lin M) : ∀ (ls : List (List UInt8)), (∀ l ∈ ls, Lin l) → ∀ (p : Pst) (k : Nat) (sp H : List UInt8) (st : Nat), MA p .nilFunc (wh ls ++ (M ++ [10])) false k sp H 0 st [] 0 → k + ls.length < 100 → st + 3 * ls.length ≤ 500 → sp.length + (wh ls).length ≤ 2500 →
    ∃ pa p' k' st', Look w0 mb sb db p pa ∧ Rn w0 mb sb db pa p' ∧ MA p' gmV (M ++ [10]) false k' (joinN sp ls) H 3 st' [] 0 ∧ k' < 100 ∧ st' ≤ 510 := by
  intro ls
  induction ls with
  | nil =>
    intro _ p k sp H st h hk hst hb
    obtain ⟨c0, c1, c2, c3, c4, c5, hcs, hP0, ⟨hA1, g1⟩, hP2, ⟨hP3, g3⟩, g4, hS5⟩ := hF.ex
    obtain ⟨p1, l1, m1⟩ := lkBy (mb := mb) (db := db) hs h (d := c0) (by rw [hcs]; rfl) hP0.c3 (by omega) (by kernel_rfl)
    obtain ⟨p2, l2, m2⟩ := lkOpen (mb := mb) (db := db) hs m1 (d := c1) (by rw [hcs]; rfl) hA1 (by omega) (by omega) (by simp)
    obtain ⟨p3, l3, m3⟩ := lkN (mb := mb) (db := db) hs m2 (d := c2) (by rw [hcs]; rfl) (.inr hP2) (by omega) (by omega) (by simp)
    have m3' : MA p3 gmV (M ++ [10]) false k sp H 3 (st + 1 + 1) [] 0 := m3
    exact ⟨p1, p3, k, st + 1 + 1, l1, Rn.on m1.u.over m1.wants l2 (Rn.on m2.u.over m2.wants l3 (dry_gm m3' hM.1 hM.2)), m3', by simpa using hk, by simp at hst; omega⟩
  | cons l ls ih =>
    intro hl p k sp H st h hk hst hb
    obtain ⟨c0, c1, c2, c3, c4, c5, hcs, hP0, ⟨hA1, g1⟩, hP2, ⟨hP3, g3⟩, g4, hS5⟩ := hF.ex
    have hl1 := hl l (by simp)
    rw [wh_cons, List.length_append, List.length_cons] at hb
    rw [List.length_cons] at hk hst
    rw [wh_cons, List.append_assoc, List.cons_append] at h
    obtain ⟨p1, l1, m1⟩ := lkBy (mb := mb) (db := db) hs h (d := c0) (by rw [hcs]; rfl) hP0.c3 (by omega) (by kernel_rfl)
    obtain ⟨p2, l2, m2⟩ := lkOpen (mb := mb) (db := db) hs m1 (d := c1) (by rw [hcs]; rfl) hA1 (by omega) (by omega) (by simp)
    obtain ⟨p3, l3, m3⟩ := lkN (mb := mb) (db := db) hs m2 (d := c2) (by rw [hcs]; rfl) (.inr hP2) (by omega) (by omega) (by simp)
    obtain ⟨hs4, m4⟩ := sg_more (w0 := w0) (mb := mb) (sb := sb) (db := db) m3 hl1.1 hl1.2 (by have := hM.2; simp; omega) (by simp) (by omega) (by omega)
    obtain ⟨p5, l5, m5⟩ := lkB (mb := mb) (db := db) hs m4 (d := c3) (by rw [hcs]; rfl) hP3 g3 (by omega) (by omega)
    obtain ⟨pa, p', k', st', la, hr, m', hk', hst'⟩ := ih (fun x hx => hl x (by simp [hx])) p5 (k + 1) _ H _ m5 (by omega) (by omega) (by simp; omega)
    exact ⟨p1, p', k', st', l1, Rn.on m1.u.over m1.wants l2 (Rn.on m2.u.over m2.wants l3 (Rn.sup m3.u.over hs4 l5 (Rn.on m5.u.over m5.wants la hr))), m', hk', hst'⟩

/-- From the label on, where the last line was read. -/
theorem fin_b (hs : Scr lo hi w0 sb 0 σ) (hF : FactsB σ) {H sp : List UInt8} {k st : Nat} (h : MA p .nilFunc [] true k sp H 0 st [] 0) (hst : st ≤ 600) (hb : sp.length ≤ 3900) :
    ∃ pa p' n' sp' H' pc' st' c', Look w0 mb sb db p pa ∧ Rn w0 mb sb db pa p' ∧ MA p' bwV [] true n' sp' H' pc' st' (repN 44 true sp ++ [10]) c' := by
  obtain ⟨c0, c1, c2, c3, c4, c5, hcs, hP0, ⟨hA1, g1⟩, hP2, ⟨hP3, g3⟩, g4, hS5⟩ := hF.ex
  obtain ⟨p1, l1, m1⟩ := lkBy (mb := mb) (db := db) hs h (d := c0) (by rw [hcs]; rfl) hP0.c3 (by omega) (by kernel_rfl)
  obtain ⟨p2, l2, m2⟩ := lkJump (mb := mb) (db := db) hs m1 (d := c1) (by rw [hcs]; rfl) hA1 g1 (by omega) (by omega) (by simp)
  obtain ⟨p3, l3, m3⟩ := lkBy (mb := mb) (db := db) hs m2 (d := c4) (by rw [hcs]; rfl) g4 (by omega) (by kernel_rfl)
  obtain ⟨p4, l4, m4⟩ := lkS (mb := mb) (db := db) hs m3 (d := c5) (by rw [hcs]; rfl) hS5 (by omega) (by omega) hb
  have hlen : (repN 44 true sp).length ≤ 3900 := by rw [repN_all, List.length_map]; exact hb
  obtain ⟨p5, l5, m5⟩ := lkEnd (mb := mb) (db := db) hs hF.quiet m4 (by rw [hcs]; rfl) (by omega)
  rw [List.nil_append] at m5
  exact ⟨p1, p5, _, _, _, _, _, _, l1, Rn.on m1.u.over m1.wants l2 (Rn.on m2.u.over m2.wants l3 (Rn.on m3.u.over m3.wants l4 (Rn.on m4.u.over m4.wants l5 (dry_end m5)))), m5⟩

theorem acts_b (hF : FactsB σ) {l0 : List UInt8} {ls : List (List UInt8)} (hl : ∀ l ∈ l0 :: ls, Lin l) (hn : ls.length ≤ 20) (hw : (wh (l0 :: ls)).length ≤ 2000) : Acts σ true (ba (wh (l0 :: ls))) ((joinN l0 ls).map (subF 44) ++ [10]) 0 := by
  have hl0 := hl l0 (by simp)
  rw [← repN_all]
  have hb : l0.length + 1 + (wh ls).length ≤ 2000 := by rw [wh_cons, List.length_append, List.length_cons] at hw; omega
  refine acts_of (o1 := []) (o2 := repN 44 true (joinN l0 ls) ++ [10]) (fun w0 mb sb db lo hi hs => ?_) rfl
  have m0 := MA.start σ.ns.length σ.ranges (wh (l0 :: ls))
  obtain ⟨c0, c1, c2, c3, c4, c5, hcs, hP0, ⟨hA1, g1⟩, hP2, ⟨hP3, g3⟩, g4, hS5⟩ := hF.ex
  by_cases h0 : ls = []
  · subst h0
    have e : wh [l0] = l0 ++ [10] := by simp [wh]
    generalize ({ pst0 true σ.ns.length σ.ranges with left := ba (wh [l0]) } : Pst) = p0 at *
    rw [e] at m0
    obtain ⟨hs2, m2⟩ := su_end (w0 := w0) (mb := mb) (sb := sb) (db := db) (R := []) m0.ends hl0.1 hl0.2 (by simp) (by omega)
    obtain ⟨pa, p', n', sp', H', pc', st', c', la, hr, m'⟩ := fin_b (mb := mb) (db := db) hs hF m2 (by omega) (by have := hl0.2; omega)
    exact ⟨p0, _, _, _, _, _, _, _, _, dry_bw m0 hl0.1 hl0.2, m0, by have := hl0.2; simp; omega, p', _, _, _, _, _, _, Rn.sup m0.ends.u.over hs2 la hr, m'⟩
  · obtain ⟨ls', M, rfl⟩ : ∃ ls' M, ls = ls' ++ [M] := ⟨ls.dropLast, ls.getLast h0, (List.dropLast_concat_getLast h0).symm⟩
    have hM := hl M (by simp)
    have e : wh (l0 :: (ls' ++ [M])) = l0 ++ 10 :: (wh ls' ++ (M ++ [10])) := by rw [wh_cons, wh_snoc]
    rw [wh_snoc, List.length_append, List.length_append] at hb
    simp only [List.length_append, List.length_cons, List.length_nil] at hn hb
    generalize ({ pst0 true σ.ns.length σ.ranges with left := ba (wh (l0 :: (ls' ++ [M]))) } : Pst) = p0 at *
    rw [e] at m0
    obtain ⟨hs1, m1⟩ := su_more (w0 := w0) (mb := mb) (sb := sb) (db := db) m0 hl0.1 hl0.2 (by simp; omega) (by simp) (by omega)
    obtain ⟨pa, p2, k2, st2, la, hr, m2, hk2, hst2⟩ := run_b (mb := mb) (db := db) hs hF hM ls' (fun x hx => hl x (by simp [hx])) _ _ _ _ _ m1 (by omega) (by omega) (by omega)
    have hj := joinN_len ls' l0
    obtain ⟨hs3, m3⟩ := sg_end (w0 := w0) (mb := mb) (sb := sb) (db := db) (R := []) m2.ends hM.1 hM.2 (by simp) (by omega) (by omega)
    obtain ⟨p4, l4, m4⟩ := lkB (mb := mb) (db := db) hs m3 (d := c3) (by rw [hcs]; rfl) hP3 g3 (by omega) (by omega)
    obtain ⟨pb, p5, n', sp', H', pc', st', c', lb, hr5, m5⟩ := fin_b (mb := mb) (db := db) hs hF m4 (by omega) (by simp; omega)
    rw [joinN_snoc]
    exact ⟨p2, _, _, _, _, _, _, _, _, Rn.sup m0.u.over hs1 la hr, m2, by have := hM.2; simp; omega, p5, _, _, _, _, _, _, Rn.sup m2.ends.u.over hs3 l4 (Rn.on m4.u.over m4.wants lb hr5), m5⟩
end
end Go.Proofs.YtonnimbcekhbgaaGreatDoor

/- FS. -/
namespace Go.Proofs.YtonnimbcekhbgaaGreatDoor
open Go.RowKit

theorem Lns.lok {lo : Nat} {w : World} {v : Value} {ls : List (List UInt8)} (h : Lns lo w v ls) (hn : ls.length ≤ 13) : Lok ls := ⟨h.ok, hn⟩
/-- Some of the lines, from the first on. -/
theorem Lns.take {lo : Nat} {w : World} {A : Option Addr} {n c k : Nat} {ls : List (List UInt8)} (h : Lns lo w (.slice A n c) ls) (hk : k ≤ ls.length) (h0 : 0 < k) : Lns lo w (.slice A k c) (ls.take k) := by
  refine ⟨⟨by rw [List.length_map, Nat.mul_one], ?_⟩, fun l hl => h.ok l (List.mem_of_mem_take hl)⟩
  rcases h.own.2 with ⟨e, e2⟩ | ⟨g, cap, cur, e, q2, q3, q4, q5, q6, q7⟩
  · omega
  · injection e with e1 e2 e3
    subst e1 e3
    have hl : (ls.take k).length = k := by rw [List.length_take]; omega
    refine .inr ⟨g, c, cur, by rw [hl], q2, q3, by rw [hl]; omega, q5, q6, ?_⟩
    rw [hl, List.map_take, ← q7, List.take_take]
    congr 1
    omega
theorem Lns.cap {lo : Nat} {w : World} {A : Option Addr} {n c : Nat} {ls : List (List UInt8)} (h : Lns lo w (.slice A n c) ls) : ls.length ≤ c := by
  rcases h.own.2 with ⟨e, e2⟩ | ⟨g, cap, cur, e, q2, q3, q4, q5, q6, q7⟩
  · omega
  · injection e with e1 e2 e3
    omega
end Go.Proofs.YtonnimbcekhbgaaGreatDoor
