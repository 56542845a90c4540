/- A row of bytes: all ways of a place. -/
import Derived.Test.YtbakfojamdocgaaDoorPA
namespace Go.Proofs.YtbakfojamdocgaaDoor
open Go.RowKit

section
variable {cd : Nat → In} {B E L pl : Nat} {ms : Nat → Nat → Bool} {text : ByteArray} {s s' : Mc} {rest : List Thr}

/-- Ways that have bytes to take yet. -/
theorem sweep_bytes (ch : Chain cd B E L ms) : ∀ (us : List Nat) (s : Mc), (∀ a ∈ us, a ≤ pl ∧ pl - a < L) → us.Pairwise (· < ·) → s.left = [] → s.fd = false →
    (∀ a ∈ us, ¬ s.sn (E + L - (pl - a)) = ((pl + 1 : Nat) : Int)) → Sweep cd 0 text pl (us.map (way E L pl) ++ rest) s s' →
    ∃ s1, s1.left = [] ∧ s1.fd = false ∧ s1.best = s.best ∧ s1.ahead = s.ahead ++ (us.filter (takes ms text pl)).map (way E L (pl + 1)) ∧
      (∀ i, s1.sn i = ((pl + 1 : Nat) : Int) → s.sn i = ((pl + 1 : Nat) : Int) ∨ ∃ a ∈ us, i = E + L - (pl - a)) ∧ (∀ i, s1.sn i ≤ ((pl + 1 : Nat) : Int) ∨ s1.sn i = s.sn i) ∧ Sweep cd 0 text pl rest s1 s'
  | [], s, _, _, hl, hf, _, sw => ⟨s, hl, hf, rfl, by simp, fun _ h => .inl h, fun _ => .inr rfl, sw⟩
  | a :: us, s, hA, hP, hl, hf, hs, sw => by
    have hsw : Sweep cd 0 text pl (way E L pl a :: (us.map (way E L pl) ++ rest)) s s' := sw
    rcases hsw with ⟨q, _⟩ | ⟨_, s1, g, sw1⟩
    · rw [hf] at q; cases q
    · have ha := hA a (by simp)
      have e := way_byte ch ha.1 ha.2 hl (hs a (by simp)) g
      rw [List.pairwise_cons] at hP
      obtain ⟨s2, r1, r2, r3, r4, r5, r6, r7⟩ := sweep_bytes ch us s1 (fun b hb => hA b (by simp [hb])) hP.2 (by rw [e]; exact hl) (by rw [e]; exact hf) (fun b hb q => by
        rw [e] at q
        have hab := hP.1 b hb
        have hb2 := hA b (by simp [hb])
        have ha2 := hA a (by simp)
        have hi : ¬ E + L - (pl - b) = E + L - (pl - a) := by omega
        exact hs b (by simp [hb]) (by simpa [nu, hi] using q)) sw1
      refine ⟨s2, r1, r2, by rw [r3, e], ?_, fun i q => ?_, fun i => ?_, r7⟩
      · rw [r4, e]
        by_cases ht : takes ms text pl a = true
        · simp [ht]
        · simp [ht]
      · rcases r5 i q with q1 | ⟨b, hb, q1⟩
        · rw [e] at q1
          by_cases hi : i = E + L - (pl - a)
          · exact .inr ⟨a, by simp, hi⟩
          · exact .inl (by simpa [nu, hi] using q1)
        · exact .inr ⟨b, by simp [hb], q1⟩
      · rcases r6 i with q | q
        · exact .inl q
        · rw [e] at q
          by_cases hi : i = E + L - (pl - a)
          · exact .inl (by rw [q]; simp [nu, hi])
          · exact .inr (by simpa [nu, hi] using q)

/-- What a place brings. -/
def Outcome (E L : Nat) (ms : Nat → Nat → Bool) (text : ByteArray) (pl : Nat) (us : List Nat) (s' : Mc) : Prop :=
  (∃ a, us.head? = some a ∧ pl - a = L ∧ (E = 1 → pl = text.size) ∧ s'.fd = true ∧ s'.best = nu (nz a) 1 pl ∧ s'.ahead = [] ∧ s'.left = []) ∨
  (¬ (∃ a, us.head? = some a ∧ pl - a = L ∧ (E = 1 → pl = text.size)) ∧ s'.fd = false ∧ s'.left = [] ∧ (∀ i, s'.sn i ≤ ((pl + 1 : Nat) : Int)) ∧
    s'.ahead = ((us.filter fun a => decide (pl - a < L)).filter (takes ms text pl)).map (way E L (pl + 1)))

/-- All ways of a place, those from earlier places ahead, perhaps one more behind them that ends at once (X). -/
theorem sweep_place (ch : Chain cd B E L ms) (us : List Nat) (hA : ∀ a ∈ us, a ≤ pl ∧ pl - a ≤ L) (hP : us.Pairwise (· < ·)) (hl : s.left = []) (hf : s.fd = false) (ha : s.ahead = []) (hs : ∀ i, s.sn i ≤ ((pl + 1 : Nat) : Int)) (hne : ∀ i, i ≤ E + L → ¬ s.sn i = ((pl + 1 : Nat) : Int))
    (hr : ∀ t ∈ rest, us ≠ [] → (∀ a ∈ us, (a : Int) < t.x 0))
    (hX : ∀ s1, s1.fd = false → s1.left = [] → (∀ i, s1.sn i ≤ ((pl + 1 : Nat) : Int)) → (∀ i, s1.sn i = ((pl + 1 : Nat) : Int) → s.sn i = ((pl + 1 : Nat) : Int) ∨ i ≤ E + L) → Sweep cd 0 text pl rest s1 s' → s'.fd = false ∧ s'.left = [] ∧ (∀ i, s'.sn i ≤ ((pl + 1 : Nat) : Int)) ∧ s'.ahead = s1.ahead)
    (sw : Sweep cd 0 text pl (us.map (way E L pl) ++ rest) s s') : Outcome E L ms text pl us s' := by
  by_cases hc : ∃ a us1, us = a :: us1 ∧ pl - a = L
  · obtain ⟨a, us1, rfl, hL⟩ := hc
    have hsw : Sweep cd 0 text pl (way E L pl a :: (us1.map (way E L pl) ++ rest)) s s' := sw
    rcases hsw with ⟨q, _⟩ | ⟨_, s1, g, sw1⟩
    · rw [hf] at q; cases q
    · rw [List.pairwise_cons] at hP
      rcases way_last ch hL hl (hne 0 (by omega)) (fun q => hne 1 (by omega)) g with ⟨hE, f1, f2, f3, f4⟩ | ⟨hE, e⟩
      · refine .inl ⟨a, rfl, hL, hE, ?_⟩
        have cut : s' = s1 := by
          match has : us1.map (way E L pl) ++ rest, sw1 with
          | [], sw1 => exact sw1
          | t :: l, sw1 =>
            have hx : s1.best 0 < t.x 0 := by
              rw [f2]
              show nu (nz a) 1 (pl : Int) 0 < t.x 0
              have e0 : nu (nz (a : Int)) 1 (pl : Int) 0 = (a : Int) := by simp [nu, nz]
              rw [e0]
              have hm : t ∈ us1.map (way E L pl) ++ rest := by rw [has]; simp
              rcases List.mem_append.1 hm with hm | hm
              · obtain ⟨b, hb, rfl⟩ := List.mem_map.1 hm
                have := hP.1 b hb
                show (a : Int) < nz (b : Int) 0
                simp [nz]; omega
              · exact hr t hm (by simp) a (by simp)
            rcases sw1 with ⟨_, _, q⟩ | ⟨q, _⟩
            · exact q
            · exact absurd ⟨f1, hx⟩ q
        rw [cut]
        exact ⟨f1, f2, by rw [f4, ha], f3⟩
      · have hb : ∀ b ∈ us1, b ≤ pl ∧ pl - b < L := fun b hb => by
          have h1 := hP.1 b hb
          have h2 := hA b (by simp [hb])
          have h3 := hA a (by simp)
          omega
        have hE1 : E = 1 := by
          have := ch.e01
          by_cases q : E = 1
          · exact q
          · exact absurd (fun r => absurd r q) hE
        obtain ⟨s2, r1, r2, _, r4, r5, r6, r7⟩ := sweep_bytes ch us1 s1 hb hP.2 (by rw [e]; exact hl) (by rw [e]; exact hf) (fun b hb' q => by
          rw [e] at q
          have := hb b hb'
          have hi : ¬ E + L - (pl - b) = 1 := by omega
          exact hne (E + L - (pl - b)) (by omega) (by simpa [nu, hi] using q)) sw1
        have hle : ∀ i, s2.sn i ≤ ((pl + 1 : Nat) : Int) := fun i => by
          rcases r6 i with q | q
          · exact q
          · rw [q, e]
            by_cases hi : i = 1
            · simp [nu, hi]
            · simpa [nu, hi] using hs i
        obtain ⟨x1, x2, x3, x4⟩ := hX s2 r2 r1 hle (fun i q => by
          rcases r5 i q with q1 | ⟨b, _, q1⟩
          · rw [e] at q1
            by_cases hi : i = 1
            · exact .inr (by omega)
            · exact .inl (by simpa [nu, hi] using q1)
          · exact .inr (by omega)) r7
        refine .inr ⟨?_, x1, x2, x3, ?_⟩
        · rintro ⟨b, hb1, _, q⟩
          exact hE q
        · rw [x4, r4, e]
          have e1 : (a :: us1).filter (fun a => decide (pl - a < L)) = us1 := by
            rw [List.filter_cons_of_neg (by simp; omega), List.filter_eq_self.2 (fun b hb' => by simpa using (hb b hb').2)]
          rw [e1, ha]; simp
  · have hb : ∀ b ∈ us, b ≤ pl ∧ pl - b < L := fun b hb => by
      have h2 := hA b hb
      match us, hb, hP with
      | a :: us1, hb, hP =>
        rw [List.pairwise_cons] at hP
        have h3 := hA a (by simp)
        have h4 : ¬ pl - a = L := fun q => hc ⟨a, us1, rfl, q⟩
        rcases List.mem_cons.1 hb with q | q
        · subst q; omega
        · have := hP.1 b q; omega
    obtain ⟨s2, r1, r2, _, r4, r5, r6, r7⟩ := sweep_bytes ch us s hb hP hl hf (fun b hb' => hne (E + L - (pl - b)) (by omega)) sw
    have hle : ∀ i, s2.sn i ≤ ((pl + 1 : Nat) : Int) := fun i => by
      rcases r6 i with q | q
      · exact q
      · rw [q]; exact hs i
    obtain ⟨x1, x2, x3, x4⟩ := hX s2 r2 r1 hle (fun i q => by
      rcases r5 i q with q1 | ⟨b, _, q1⟩
      · exact .inl q1
      · exact .inr (by omega)) r7
    refine .inr ⟨?_, x1, x2, x3, ?_⟩
    · rintro ⟨a, h1, h2, _⟩
      match us, h1 with
      | b :: us1, h1 =>
        have h1 : b = a := by simpa using h1
        subst h1
        exact hc ⟨b, us1, rfl, h2⟩
    · have e1 : us.filter (fun a => decide (pl - a < L)) = us := List.filter_eq_self.2 (fun b hb' => by simpa using (hb b hb').2)
      rw [x4, r4, ha, e1]; simp
end
end Go.Proofs.YtbakfojamdocgaaDoor
