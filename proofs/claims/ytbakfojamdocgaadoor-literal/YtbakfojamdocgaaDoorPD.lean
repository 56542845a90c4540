/- A row of bytes: place by place to the end. -/
import Derived.Test.YtbakfojamdocgaaDoorPC
namespace Go.Proofs.YtbakfojamdocgaaDoor
open Go.RowKit

section
variable {cd : Nat → In} {B E L : Nat} {ms : Nat → Nat → Bool} {text : ByteArray}

theorem runs_over : ∀ (k pl bg : Nat) (s s' : Mc), s.fd = true → Runs cd 0 text bg k pl [] s s' → s' = s
  | 0, _, _, _, _, _, r => r
  | k + 1, pl, bg, s, s', hf, r => by
    rcases r with ⟨_, q⟩ | ⟨q, _⟩
    · exact q
    · simp [hf] at q

/-- The ways of a place, the one that begins there among them. -/
theorem place_out {pl : Nat} {s s' : Mc} (ch : Chain cd B E L ms) (hf : s.fd = false) (hl : s.left = []) (ha : s.ahead = []) (hs : ∀ i, s.sn i ≤ (pl : Int))
    (sw : Sweep cd 0 text pl ((starts B L ms text pl).map (way E L pl) ++ [⟨E + L + B, 0, nz pl⟩]) s s') : Outcome E L ms text pl (starts B L ms text pl ++ (if alive B L ms text pl pl = true then [pl] else [])) s' := by
  have hA : ∀ a ∈ starts B L ms text pl, a ≤ pl ∧ pl - a ≤ L := fun a h => by
    have q := starts_mem h
    exact ⟨by omega, (alive_le q.2).2.1⟩
  have hb := ch.b01
  have hle : ∀ i, s.sn i ≤ ((pl + 1 : Nat) : Int) := fun i => by have := hs i; omega
  have hne : ∀ i, ¬ s.sn i = ((pl + 1 : Nat) : Int) := fun i q => by have := hs i; omega
  by_cases hB : B = 0
  · have hal : alive B L ms text pl pl = true := by unfold alive; simp [hB, pre]
    rw [hal, if_pos rfl]
    have e : (starts B L ms text pl).map (way E L pl) ++ [(⟨E + L + B, 0, nz pl⟩ : Thr)] = (starts B L ms text pl ++ [pl]).map (way E L pl) ++ [] := by
      have e1 : (⟨E + L + B, 0, nz pl⟩ : Thr) = way E L pl pl := by unfold way; rw [hB, Nat.sub_self]; rfl
      rw [e1]; simp
    rw [e] at sw
    refine sweep_place ch _ (fun a h => ?_) ?_ hl hf ha hle (fun i _ => hne i) (fun t ht => by cases ht) (fun s1 f1 l1 le1 _ q => ?_) sw
    · rcases List.mem_append.1 h with h | h
      · exact hA a h
      · rw [List.mem_singleton.1 h]; omega
    · rw [List.pairwise_append]
      exact ⟨starts_sorted _ _ _ _ _, by simp, fun a ha b hb => by rw [List.mem_singleton.1 hb]; exact (starts_mem ha).1⟩
    · have q : s' = s1 := q
      rw [q]
      exact ⟨f1, l1, le1, rfl⟩
  · have hB1 : B = 1 := by omega
    by_cases hp : pl = 0
    · subst hp
      have hal : alive B L ms text 0 0 = true := by unfold alive; simp [pre]
      have e0 : starts B L ms text 0 = [] := rfl
      rw [hal, if_pos rfl, e0]
      rw [e0] at sw
      have sw2 := spawn_begins ch hB1 hf hs sw
      have sw3 : Sweep cd 0 text 0 ([0].map (way E L 0) ++ []) { s with sn := nu s.sn (E + L + 1) ((0 + 1 : Nat) : Int) } s' := sw2
      refine sweep_place ch [0] (fun a h => by rw [List.mem_singleton.1 h]; omega) (by simp) (by exact hl) (by exact hf) (by exact ha) (fun i => ?_) (fun i hi q => ?_) (fun t ht => by cases ht) (fun s1 f1 l1 le1 _ q => ?_) sw3
      · by_cases h : i = E + L + 1
        · simp [nu, h]
        · simpa [nu, h] using hle i
      · have h : ¬ i = E + L + 1 := by omega
        exact hne i (by simpa [nu, h] using q)
      · have q : s' = s1 := q
        rw [q]
        exact ⟨f1, l1, le1, rfl⟩
    · have hal : alive B L ms text pl pl = false := by unfold alive; simp [hB, hp]
      rw [hal, if_neg (by simp), List.append_nil]
      refine sweep_place ch _ hA (starts_sorted _ _ _ _ _) hl hf ha hle (fun i _ => hne i) (fun t ht _ a h => ?_) (fun s1 f1 l1 le1 fr q => ?_) sw
      · rw [List.mem_singleton.1 ht]
        show (a : Int) < nz (pl : Int) 0
        have := (starts_mem h).1
        simp [nz]; omega
      · exact spawn_dies ch hB1 (by omega) f1 l1 le1 (fun i r => (fr i r).resolve_left (hne i)) q

theorem runs_chain (ch : Chain cd B E L ms) : ∀ (k pl : Nat) (s s' : Mc), k + pl = text.size + 1 → s.fd = false → s.left = [] → s.ahead = [] → (∀ i, s.sn i ≤ (pl : Int)) → (∀ a, Stands B E L ms text a → pl ≤ a + L) →
    Runs cd 0 text (E + L + B) k pl ((starts B L ms text pl).map (way E L pl)) s s' → Ended B E L ms text s'
  | 0, pl, s, s', hk, hf, _, _, _, hst, r => by
    have e : s' = s := r
    refine .inr ⟨fun a st => ?_, by rw [e]; exact hf⟩
    have h1 := hst a st
    have h2 := st.2.1
    omega
  | k + 1, pl, s, s', hk, hf, hl, ha, hs, hst, r => by
    rcases r with ⟨q, _⟩ | ⟨_, s1, sw, r1⟩
    · simp [hf] at q
    · have sw' : Sweep cd 0 text pl ((starts B L ms text pl).map (way E L pl) ++ [⟨E + L + B, 0, nz pl⟩]) s s1 := by simpa [hf] using sw
      have mem : ∀ a ∈ starts B L ms text pl ++ (if alive B L ms text pl pl = true then [pl] else []), a ≤ pl ∧ alive B L ms text pl a = true := fun a h => by
        rcases List.mem_append.1 h with h | h
        · have := starts_mem h
          exact ⟨by omega, this.2⟩
        · split at h
          · rw [List.mem_singleton.1 h]; exact ⟨Nat.le_refl _, by assumption⟩
          · cases h
      rcases place_out ch hf hl ha hs sw' with ⟨a, h1, h2, h3, h4, h5, h6, h7⟩ | ⟨h1, h2, h3, h4, h5⟩
      · have hm := mem a (List.mem_of_head? h1)
        have al := alive_le hm.2
        have epl : a + L = pl := by omega
        rw [h6] at r1
        have e := runs_over k (pl + 1) (E + L + B) _ s' (by exact h4) r1
        refine .inl ⟨a, ⟨al.1, by omega, by rw [h2] at al; exact al.2.2, fun q => by rw [epl]; exact h3 q⟩, fun b hb st => ?_, by rw [e]; exact h4, by rw [e, epl]; exact h5⟩
        have := hst b st
        omega
      · rw [h5, starts_next] at r1
        refine runs_chain ch k (pl + 1) { s1 with ahead := [] } s' (by omega) h2 h3 rfl (fun i => h4 i) (fun a st => ?_) r1
        have h6 := hst a st
        by_cases he : a + L = pl
        · exfalso
          refine h1 ⟨a, ?_, by omega, fun q => by rw [← he]; exact st.2.2.2 q⟩
          have hal : alive B L ms text pl a = true := by
            unfold alive
            have e : pl - a = L := by omega
            rw [e]
            simp only [Bool.and_eq_true, Bool.or_eq_true, decide_eq_true_eq]
            exact ⟨⟨st.1, Nat.le_refl _⟩, st.2.2.1⟩
          have hin : a ∈ starts B L ms text pl ++ (if alive B L ms text pl pl = true then [pl] else []) := by
            by_cases q : a = pl
            · subst q
              rw [hal, if_pos rfl]; simp
            · refine List.mem_append_left _ ?_
              unfold starts
              rw [List.mem_filter, List.mem_range]
              exact ⟨by omega, hal⟩
          have hsort : (starts B L ms text pl ++ (if alive B L ms text pl pl = true then [pl] else [])).Pairwise (· < ·) := by
            rw [List.pairwise_append]
            refine ⟨starts_sorted _ _ _ _ _, ?_, fun x hx y hy => ?_⟩
            · split <;> simp
            · split at hy
              · rw [List.mem_singleton.1 hy]; exact (starts_mem hx).1
              · cases hy
          match hus : starts B L ms text pl ++ (if alive B L ms text pl pl = true then [pl] else []), hin, hsort with
          | x :: l, hin, hsort =>
            rw [List.pairwise_cons] at hsort
            rcases List.mem_cons.1 hin with q | q
            · rw [q]; rfl
            · have h7 := hsort.1 a q
              have h8 := alive_le (mem x (by rw [hus]; simp)).2
              omega
        · omega

/-- From the beginning. -/
theorem runs_row (ch : Chain cd B E L ms) {s' : Mc} (r : Runs cd 0 text (E + L + B) (text.size + 1) 0 [] mc0 s') : Ended B E L ms text s' :=
  runs_chain ch (text.size + 1) 0 mc0 s' rfl rfl rfl rfl (fun _ => Int.le_refl _) (fun _ _ => Nat.zero_le _) r
end
end Go.Proofs.YtbakfojamdocgaaDoor
