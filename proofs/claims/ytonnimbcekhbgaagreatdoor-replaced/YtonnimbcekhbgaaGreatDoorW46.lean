/- What the claim needs of: KV. -/
import Derived.Test.YtonnimbcekhbgaaGreatDoorW40
import Derived.Test.YtonnimbcekhbgaaGreatDoorW45

/- KV. -/
namespace Go.Proofs.YtonnimbcekhbgaaGreatDoor
open Go.RowKit

abbrev inP (x : List UInt8) : Pi := piBranches [piRow (x.map piB)]
/-- One group of bytes. -/
abbrev grP (x : List UInt8) : Pi := piBranches [piRow [piGroup 1 (inP x)]]
def lowB (c : UInt8) : Bool := decide (97 ≤ c.toNat) && decide (c.toNat ≤ 122)

theorem low_spec : ∀ i : Fin 256, lowB (UInt8.ofNat i) = true → isSpec (UInt8.ofNat i) = false := by decide +kernel
theorem low_plain {c : UInt8} (h : lowB c = true) : isSpec c = false ∧ c ≠ 10 ∧ 97 ≤ c.toNat ∧ c.toNat ≤ 122 := by
  have hc : UInt8.ofNat (⟨c.toNat, c.toNat_lt⟩ : Fin 256) = c := by simp
  have h1 := low_spec ⟨c.toNat, c.toNat_lt⟩ (by rw [hc]; exact h)
  rw [hc] at h1
  simp only [lowB, Bool.and_eq_true, decide_eq_true_eq] at h
  refine ⟨h1, ?_, h.1, h.2⟩
  rintro rfl
  exact absurd h.1 (by decide)

section
variable {x s : List UInt8}
theorem head_good (h : ∀ c ∈ x, lowB c = true) : goodHead (x ++ 41 :: s).head? = true := by
  cases x with
  | nil => rfl
  | cons c x =>
    have := low_plain (h c (by simp))
    show decide _ = true
    rw [decide_eq_true_eq]
    omega
theorem isH_low {c : UInt8} {k : Nat} (h : lowB c = true) (hk : k < 97 ∨ 122 < k) : isH (c :: s) k = false := by
  have := low_plain h
  show (c.toNat == k) = false
  rw [beq_eq_false_iff_ne]
  omega
theorem rowL_low (g : Nat) : ∀ x : List UInt8, (∀ c ∈ x, lowB c = true) → RowL (41 :: s) g (x ++ 41 :: s) g (x.map piB)
  | [], _ => ⟨rfl, rfl, .inr (.inr rfl)⟩
  | c :: x, h => by
    have h1 := h c (by simp)
    have h2 := low_plain h1
    exact ⟨by simp, isH_low h1 (by omega), isH_low h1 (by omega), x ++ 41 :: s, g, pieceL_atom (f := id) (isH_low h1 (by omega)) (isH_low h1 (by omega)) (atomL_byte h2.1 h2.2.1) (repL_no (head_good fun d hd => h d (by simp [hd]))), rowL_low g x (fun d hd => h d (by simp [hd]))⟩
theorem branchesL_gr (h : ∀ c ∈ x, lowB c = true) (hl : x.length ≤ 200) : BranchesL (40 :: (x ++ [41])) [] 0 1 (grP x) := by
  have h1 : BranchesL (x ++ [41]) [41] 1 1 (inP x) := branchesL_all (branchL_row (rowL_low 1 x h) (by simpa using hl)) ⟨rfl, rfl, rfl⟩ (by simp)
  have h2 : AtomL (40 :: (x ++ [41])) [] 0 1 (piGroup 1 (inP x)) := atomL_group (by omega) h1
  have h3 : PieceL (40 :: (x ++ [41])) [] 0 1 (piGroup 1 (inP x)) := pieceL_atom (f := id) rfl rfl h2 (repL_no rfl)
  exact branchesL_all (branchL_row (ps := [piGroup 1 (inP x)]) ⟨by simp, rfl, rfl, [], 1, h3, rfl, rfl, .inl rfl⟩ (by simp)) ⟨rfl, rfl, rfl⟩ (by simp)
theorem reads_gr {src : ByteArray} {fr : Nat} (h : ∀ c ∈ x, lowB c = true) (hl : x.length ≤ 200) (hs : Sf src.data.toList fr (40 :: (x ++ [41]))) : ReadsN src fr 1 (grP x) := by
  obtain ⟨k', hs', b⟩ := (branchesL_gr h hl).2 src.data.toList fr hs
  rw [hs'.end] at b
  exact readsN_of b

/-- Its instructions. -/
def rowE : List (Nat → Bool) → Nat → List In
  | [], _ => []
  | m :: ms, k => ⟨0, k, 0, 0, 0, m⟩ :: rowE ms (k + 1)
theorem rowE_at : ∀ (ms : List (Nat → Bool)) (k i : Nat) (m : Nat → Bool), ms[i]? = some m → (rowE ms k)[i]? = some ⟨0, k + i, 0, 0, 0, m⟩
  | [], _, _, _, h => by cases h
  | m0 :: ms, k, 0, m, h => by injection h with h; subst h; rfl
  | m0 :: ms, k, i + 1, m, h => by
    show (rowE ms (k + 1))[i]? = _
    rw [rowE_at ms (k + 1) i m h, show k + 1 + i = k + (i + 1) by omega]
theorem rowE_len : ∀ (ms : List (Nat → Bool)) (k : Nat), (rowE ms k).length = ms.length
  | [], _ => rfl
  | _ :: ms, k => by show (rowE ms (k + 1)).length + 1 = ms.length + 1; rw [rowE_len]
theorem emRow_ones : ∀ (ms : List (Nat → Bool)) (k : Nat), emRow (ms.map fun m => (piOne m).it) (k + 1) k 0 = (rowE ms k, k + ms.length)
  | [], k => rfl
  | m :: ms, k => by
    have ih := emRow_ones ms (k + 1)
    show ([(⟨0, k, 0, 0, 0, m⟩ : In)] ++ (emRow (ms.map fun m => (piOne m).it) (k + 1 + 1) (k + 1) 0).1, (emRow (ms.map fun m => (piOne m).it) (k + 1 + 1) (k + 1) 0).2) = _
    rw [ih]
    show (_, k + 1 + ms.length) = (_, k + (ms.length + 1))
    rw [show k + 1 + ms.length = k + (ms.length + 1) by omega]
    rfl

abbrev bitsB (c : UInt8) : Nat → Bool := span noBytes c.toNat (c.toNat + 1)
theorem ones_sum (x : List UInt8) : (x.map fun _ => 1).sum = x.length := by
  induction x with
  | nil => rfl
  | cons c x ih => rw [List.map_cons, List.sum_cons, ih, List.length_cons]; omega
theorem inP_len (x : List UInt8) : (inP x).len = x.length := by
  show lenL ([piRow (x.map piB)].map Pi.it) + (1 - 1) = _
  show (lenL ((x.map piB).map Pi.it) + 0) + 0 = _
  unfold lenL
  rw [List.map_map, List.map_map]
  exact ones_sum x
theorem inP_em (x : List UInt8) : (inP x).em 2 1 0 = (rowE (x.reverse.map bitsB) 1, 1 + x.length) := by
  have h := emRow_ones (x.reverse.map bitsB) 1
  show (((emRow ((x.map piB).map Pi.it).reverse 2 1 0)).1 ++ [], (emRow ((x.map piB).map Pi.it).reverse 2 1 0).2) = _
  rw [List.append_nil]
  have e : ((x.map piB).map Pi.it).reverse = (x.reverse.map bitsB).map fun m => (piOne m).it := by
    rw [List.map_map, List.map_map, List.map_reverse]; rfl
  rw [e, h]
  simp
theorem grP_len (x : List UInt8) : (grP x).len = x.length + 2 := by
  have := inP_len x
  show ((((inP x).len + 2) + 0) + 0) + (1 - 1) = _
  omega
theorem grP_em (x : List UInt8) : (grP x).em 1 0 0 = (noIn 3 0 0 3 0 :: (rowE (x.reverse.map bitsB) 1 ++ [noIn 3 (1 + x.length) 0 2 0]), 2 + x.length) := by
  have h := inP_em x
  have hl := inP_len x
  show ((((noIn 3 0 0 3 0 :: (((inP x).em 2 1 0).1 ++ [noIn 3 ((inP x).em 2 1 0).2 0 2 0])) ++ []) ++ []), 1 + 1 + (inP x).len) = _
  rw [h, hl]
  simp
theorem grP_sz {x : List UInt8} (h : x.length ≤ 100) : (grP x).sz ≤ 300 := by
  have e : szL ((x.map piB).map Pi.it) = x.length := by
    unfold szL
    rw [List.map_map, List.map_map]
    exact ones_sum x
  have : (grP x).sz = min (min (min (min (min (szL ((x.map piB).map Pi.it)) 301 + 0 + (1 - 1)) 301 + 2) 301 + 0) 301 + 0 + (1 - 1)) 301 := rfl
  rw [this, e]
  omega

/-- The instructions of a group of L bytes. -/
structure GrC (cd : Nat → In) (L : Nat) (ms : Nat → Nat → Bool) : Prop where
  c0 : (cd 0).kind = 6
  c1 : cd 1 = noIn 3 0 0 3 0
  cb : ∀ j, j < L → cd (L + 1 - j) = ⟨0, L - j, 0, 0, 0, ms j⟩
  ce : cd (L + 2) = noIn 3 (L + 1) 0 2 0
theorem grC_of (x : List UInt8) : GrC (cdL (codeOf (grP x))) x.length (msOf x) := by
  have e : codeOf (grP x) = noIn 6 0 0 0 0 :: noIn 3 0 0 3 0 :: (rowE (x.reverse.map bitsB) 1 ++ [noIn 3 (1 + x.length) 0 2 0]) := by unfold codeOf; rw [grP_em]
  have hl : (rowE (x.reverse.map bitsB) 1).length = x.length := by rw [rowE_len]; simp
  rw [e]
  refine ⟨rfl, rfl, fun j hj => ?_, ?_⟩
  · unfold cdL
    obtain ⟨i, hi⟩ : ∃ i, i + j + 1 = x.length := ⟨x.length - 1 - j, by omega⟩
    rw [show x.length + 1 - j = i + 1 + 1 by omega, List.getElem?_cons_succ, List.getElem?_cons_succ, List.getElem?_append_left (by omega)]
    have hx : x[j]? = some x[j] := List.getElem?_eq_getElem hj
    rw [rowE_at _ 1 i (msOf x j) (by
      rw [List.getElem?_map, List.getElem?_reverse (by omega), show x.length - 1 - i = j by omega]
      unfold msOf
      rw [hx]; rfl)]
    rw [show 1 + i = x.length - j by omega]
    rfl
  · unfold cdL
    rw [List.getElem?_cons_succ, List.getElem?_cons_succ, List.getElem?_append_right (by omega), hl, Nat.sub_self, Nat.add_comm]
    rfl
end

section
variable {cd : Nat → In} {n D L fr pl : Nat} {ms : Nat → Nat → Bool} {text : ByteArray} {t u : Thr}
abbrev gx2 (a : Nat) : Nat → Int := nu (nz a) 2 a
abbrev gx3 (L a : Nat) : Nat → Int := nu (gx2 a) 3 ((a + L : Nat) : Int)
/-- Where a way is. -/
def Gw (L : Nat) (ms : Nat → Nat → Bool) (text : ByteArray) (pl : Nat) (t : Thr) : Prop :=
  (t.pc = L + 2 ∧ t.x = nz pl) ∨ (∃ a j, j ≤ L ∧ pl = a + j ∧ t.pc = L + 1 - j ∧ t.x = gx2 a ∧ pre ms text a j = true) ∨ (∃ a, pl = a + L ∧ t.pc = 0 ∧ t.x = gx3 L a ∧ pre ms text a L = true)

theorem eps_three {pc nx sl : Nat} (h : cd t.pc = noIn 3 nx 0 sl 0) (_ : t.pc = pc) : eps cd text pl t = [⟨nx, t.tk, nu t.x sl pl⟩] := by
  unfold eps epsC noteE
  simp [h]
theorem eps_byte (h : (cd t.pc).kind = 0 ∨ (cd t.pc).kind = 6) : eps cd text pl t = [] := by
  unfold eps epsC
  rcases h with h | h <;> simp [h]

theorem gr_way (gc : GrC cd L ms) (h : Way cd text (L + 2) fr pl t) : Gw L ms text pl t := by
  induction h with
  | start a _ _ => exact .inl ⟨rfl, rfl⟩
  | @eps pl t u h hu ih =>
    rcases ih with ⟨h1, h2⟩ | ⟨a, j, h1, h2, h3, h4, h5⟩ | ⟨a, h1, h2, h3, h4⟩
    · rw [eps_three (by rw [h1]; exact gc.ce) rfl, List.mem_singleton] at hu
      subst hu
      exact .inr (.inl ⟨pl, 0, Nat.zero_le _, rfl, rfl, by show nu t.x 2 pl = _; rw [h2], rfl⟩)
    · by_cases hj : j < L
      · rw [eps_byte (.inl (by rw [h3, gc.cb j hj]))] at hu
        cases hu
      · have ej : j = L := by omega
        subst ej
        rw [eps_three (by rw [h3, show j + 1 - j = 1 by omega]; exact gc.c1) rfl, List.mem_singleton] at hu
        subst hu
        exact .inr (.inr ⟨a, h2, rfl, by show nu t.x 3 pl = _; rw [h4, h2], h5⟩)
    · rw [eps_byte (.inr (by rw [h2]; exact gc.c0))] at hu
      cases hu
  | @byte pl t h hb ih =>
    unfold takesB at hb
    rw [Bool.and_eq_true, decide_eq_true_eq] at hb
    rcases ih with ⟨h1, h2⟩ | ⟨a, j, h1, h2, h3, h4, h5⟩ | ⟨a, h1, h2, h3, h4⟩
    · rw [h1, gc.ce] at hb
      cases hb.1
    · by_cases hj : j < L
      · refine .inr (.inl ⟨a, j + 1, hj, by omega, ?_, h4, ?_⟩)
        · show (cd t.pc).nx = _
          rw [h3, gc.cb j hj]
          show L - j = _
          omega
        · rw [pre, h5, Bool.true_and]
          have := hb.2
          rw [h3, gc.cb j hj] at this
          subst h2
          exact this
      · have ej : j = L := by omega
        subst ej
        rw [h3, show j + 1 - j = 1 by omega, gc.c1] at hb
        cases hb.1
    · rw [h2] at hb
      have := gc.c0
      omega

theorem gr_here (gc : GrC cd L ms) {a : Nat} (hfr : fr ≤ a) (ha : a + L ≤ text.size) (hp : pre ms text a L = true) : Way cd text (L + 2) fr (a + L) ⟨0, 0, gx3 L a⟩ := by
  have key : ∀ j, j ≤ L → pre ms text a j = true → Way cd text (L + 2) fr (a + j) ⟨L + 1 - j, 0, gx2 a⟩ := by
    intro j
    induction j with
    | zero =>
      intro _ _
      refine .eps (.start a hfr (by omega)) ?_
      rw [eps_three (t := ⟨L + 2, 0, nz a⟩) gc.ce rfl]
      exact List.mem_singleton.2 rfl
    | succ j ih =>
      intro hj hpj
      rw [pre, Bool.and_eq_true] at hpj
      have w := ih (by omega) hpj.1
      have hk := gc.cb j (by omega)
      have := Way.byte w (by
        unfold takesB
        show (decide ((cd (L + 1 - j)).kind = 0) && _) = true
        rw [hk]
        simpa using hpj.2)
      have e : behind cd ⟨L + 1 - j, 0, gx2 a⟩ = ⟨L + 1 - (j + 1), 0, gx2 a⟩ := by
        unfold behind
        show (⟨(cd (L + 1 - j)).nx, (cd (L + 1 - j)).dp, gx2 a⟩ : Thr) = _
        rw [hk, show L + 1 - (j + 1) = L - j by omega]
      rw [e] at this
      exact this
  have w := key L (Nat.le_refl _) hp
  rw [show L + 1 - L = 1 by omega] at w
  refine .eps w ?_
  rw [eps_three (t := ⟨1, 0, gx2 a⟩) gc.c1 rfl]
  exact List.mem_singleton.2 rfl

theorem fix_gr {q : Nat → Bool} (hc : Cok cd n D (L + 2)) (gc : GrC cd L ms) (hL : 1 ≤ L) (hq : ∀ a, q a = true ↔ a + L ≤ text.size ∧ pre ms text a L = true) : Fix cd n D (L + 2) text L q (fun a => nu (gx3 L a) 1 ((a + L : Nat) : Int)) := by
  refine ⟨hc, hL, fun pl t u wt wu sm => ?_, fun e t w h6 => ?_, fun fr a hfr qa => ?_, fun a qa => ((hq a).1 qa).1, fun a => ?_, fun a => ?_⟩
  · have e := sm.1
    have gx0 : ∀ a, gx2 a 0 = a := fun a => by simp [gx2, nu, nz]
    have gx0' : ∀ a, gx3 L a 0 = a := fun a => by simp [gx3, nu, nz]
    rcases gr_way gc wt with ⟨h1, h2⟩ | ⟨a, j, h1, h2, h3, h4, _⟩ | ⟨a, h1, h2, h3, _⟩ <;> rcases gr_way gc wu with ⟨g1, g2⟩ | ⟨b, i, g1, g2, g3, g4, _⟩ | ⟨b, g1, g2, g3, _⟩
    all_goals first
      | omega
      | (rw [h2, g2])
      | (rw [h4, g4, gx0, gx0]; omega)
      | (rw [h3, g3, gx0', gx0']; omega)
  · rcases gr_way gc w with ⟨h1, h2⟩ | ⟨a, j, h1, h2, h3, h4, _⟩ | ⟨a, h1, h2, h3, h4⟩
    · rw [h1, gc.ce] at h6; cases h6
    · by_cases hj : j < L
      · rw [h3, gc.cb j hj] at h6; cases h6
      · rw [h3, show L + 1 - j = 1 by omega, gc.c1] at h6; cases h6
    · exact ⟨a, (hq a).2 ⟨by rw [← h1]; exact w.le, h4⟩, h1, by rw [h3, h1], by rw [h3]; simp [nu, nz]⟩
  · obtain ⟨h1, h2⟩ := (hq a).1 qa
    exact ⟨_, gr_here gc hfr h1 h2, gc.c0, by simp [nu, nz]⟩
  · simp [nu, nz]
  · simp [nu]
end

abbrev grQ (x : List UInt8) : Nat → World → Prop := PatQ (1 + (grP x).len) (((grP x).em 1 0 0).2 : Nat) 1 (grP x).dd (flatI (codeOf (grP x)))

theorem sm_gr (text : ByteArray) (x : List UInt8) : ∃ M, SmP text (grP x) M := by
  have h1 := smP_row (text := text) (x.map fun c => ((piB c, mOne text (bitsB c)) : Mn)) (fun p hp => by
    obtain ⟨c, _, rfl⟩ := List.mem_map.1 hp
    exact smP_one _)
  rw [List.map_map] at h1
  have h2 := smP_branches [((piRow (x.map piB), _) : Mn)] (by simp) (fun p hp => by rw [List.mem_singleton.1 hp]; exact h1)
  have h3 := smP_group (g := 1) h2 (by omega) (by omega)
  have h4 := smP_row [((piGroup 1 (inP x), _) : Mn)] (fun p hp => by rw [List.mem_singleton.1 hp]; exact h3)
  exact ⟨_, smP_branches [((piRow [piGroup 1 (inP x)], _) : Mn)] (by simp) (fun p hp => by rw [List.mem_singleton.1 hp]; exact h4)⟩

theorem grP_dd (x : List UInt8) : (grP x).dd = 0 := by
  have : ∀ x : List UInt8, ddL ((x.map piB).map Pi.it) = 0 := fun x => by
    induction x with
    | nil => rfl
    | cons c x ih =>
      show max 0 (ddL ((x.map piB).map Pi.it)) = 0
      rw [ih]; rfl
  show max (max (max (ddL ((x.map piB).map Pi.it)) 0) 0) 0 = 0
  rw [this]; rfl

theorem fixQ_gr {x : List UInt8} (hx : x.length ≤ 100) (h1 : 1 ≤ x.length) : FixQ (grQ x) x.length 1 (fun sp a => standsB (ba sp) (ba x) a) := by
  intro p w pt
  obtain ⟨M, hm⟩ := sm_gr ⟨#[]⟩ x
  have hl := grP_len x
  obtain ⟨g, c, hcd⟩ := cd_node hm pt
  have hbg : ((grP x).em 1 0 0).2 = x.length + 2 := by rw [grP_em]; exact Nat.add_comm _ _
  have c1 := pt.c1
  rw [hbg] at c1
  have hdd := grP_dd x
  have hok : Cok (cdL (codeOf (grP x))) (1 + (grP x).len) (grP x).dd (x.length + 2) := by
    obtain ⟨wf1, wf2⟩ := hm.wf 1 0 0 (1 + (grP x).len) (grP x).dd (by omega) (by omega) (by omega)
    refine ⟨hcd.ok, fun a ha h3 => ?_, by omega⟩
    match a, ha with
    | 0, _ => simp [cdL, codeOf] at h3
    | a + 1, ha =>
      have hcl : (codeOf (grP x)).length = 1 + (grP x).len := by unfold codeOf; rw [List.length_cons, hm.lens]; omega
      have : ((grP x).em 1 0 0).1[a]? = some (cdL (codeOf (grP x)) (a + 1)) := by
        have := cdL_at (l := codeOf (grP x)) (a := a + 1) (by omega)
        simpa [codeOf] using this
      exact (wf1 _ (List.mem_of_getElem? this)).2.2.2.2.2 h3
  refine ⟨g, c, 1 + (grP x).len, (grP x).dd, x.length + 2, _, hcd, c1, pt.c2, by omega, by rw [hdd]; omega, fun sp _ => ?_⟩
  refine ⟨_, fix_gr hok (grC_of x) h1 (fun a => by rw [stands_iff, ba_size, ba_size, ba_list]), fun a j hj => ?_⟩
  match j, hj with
  | 0, _ => simp [nu, nz, ntF]
  | 1, _ => simp [nu, ntF]
  | 2, _ => simp [nu, ntF]
  | 3, _ => simp [nu, ntF]

/-- The script reader reads it. -/
theorem pat_gr {src : ByteArray} {k e m : Nat} {x : List UInt8} (hx : x.length ≤ 50) (h : ∀ c ∈ x, lowB c = true) (h47 : saw src k 47 = true) (hp : ptN src m (k + 1) = some e) (hl : e - 1 ≤ 100 + (k + 1)) (hs : Sf (src.extract 0 (e - 1)).data.toList (k + 1) (40 :: (x ++ [41]))) : PatOk src k e (grQ x) (src.extract (k + 1) (e - 1)) :=
  pattern_v h47 hp hl (by omega) (reads_node (reads_gr h (by omega) hs) (grP_sz (by omega)) (by rw [grP_len]; omega))
end Go.Proofs.YtonnimbcekhbgaaGreatDoor
