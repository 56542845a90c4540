/- A row of bytes, perhaps bound to the text's beginning or its end: Match and found. -/
import Derived.Test.YtanpiomfnbiilaaDoorRE
namespace Go.Proofs.YtanpiomfnbiilaaDoor
open Go.RowKit

/-- The pieces of a row of L bytes, behind the beginning (B = 1) or not, ahead of the end (E = 1) or not. -/
def pcsOf (B E L : Nat) (ms : Nat → Nat → Bool) : List Pc := (if B = 1 then [⟨1, noBytes⟩] else []) ++ ((List.range L).map (fun j => (⟨0, ms j⟩ : Pc)) ++ (if E = 1 then [⟨2, noBytes⟩] else []))

section
variable {B E L : Nat} {ms : Nat → Nat → Bool}
theorem pcsOf_len (hB : B ≤ 1) (hE : E ≤ 1) : (pcsOf B E L ms).length = B + (L + E) := by
  have h1 : (if B = 1 then [(⟨1, noBytes⟩ : Pc)] else []).length = B := by split <;> simp <;> omega
  have h2 : (if E = 1 then [(⟨2, noBytes⟩ : Pc)] else []).length = E := by split <;> simp <;> omega
  unfold pcsOf
  rw [List.length_append, List.length_append, h1, h2]; simp

theorem pcsOf_kind (q : Pc) (h : q ∈ pcsOf B E L ms) : q.kind ≤ 2 := by
  unfold pcsOf at h
  rcases List.mem_append.1 h with h | h
  · split at h
    · rw [List.mem_singleton.1 h]; show 1 ≤ 2; omega
    · cases h
  · rcases List.mem_append.1 h with h | h
    · obtain ⟨j, _, rfl⟩ := List.mem_map.1 h; exact Nat.zero_le _
    · split at h
      · rw [List.mem_singleton.1 h]; exact Nat.le_refl _
      · cases h

theorem pcsOf_byte (hB : B ≤ 1) (j : Nat) (hj : j < L) : (pcsOf B E L ms)[B + j]? = some ⟨0, ms j⟩ := by
  have h1 : (if B = 1 then [(⟨1, noBytes⟩ : Pc)] else []).length = B := by split <;> simp <;> omega
  unfold pcsOf
  rw [List.getElem?_append_right (by omega), h1, Nat.add_sub_cancel_left, List.getElem?_append_left (by simp; exact hj)]
  simp [hj]
theorem pcsOf_begin (hB : B = 1) : (pcsOf B E L ms)[0]? = some ⟨1, noBytes⟩ := by unfold pcsOf; rw [if_pos hB]; rfl
theorem pcsOf_end (hB : B ≤ 1) (hE : E = 1) : (pcsOf B E L ms)[B + L]? = some ⟨2, noBytes⟩ := by
  have h1 : (if B = 1 then [(⟨1, noBytes⟩ : Pc)] else []).length = B := by split <;> simp <;> omega
  unfold pcsOf
  rw [List.getElem?_append_right (by omega), h1, Nat.add_sub_cancel_left, List.getElem?_append_right (by simp), if_pos hE]
  simp

theorem cdOf_at {pcs : List Pc} {i : Nat} {q : Pc} (hi : i < pcs.length) (h : pcs[pcs.length - 1 - i]? = some q) : cdOf pcs (i + 1) = if q.kind = 0 then ⟨0, i, 0, 0, 0, q.m⟩ else ⟨q.kind, i, 0, 0, 0, noBytes⟩ := by
  unfold cdOf
  rw [if_neg (by omega), show i + 1 - 1 = i by omega, List.getElem?_reverse hi, h]

theorem chain_of (hB : B ≤ 1) (hE : E ≤ 1) : Chain (cdOf (pcsOf B E L ms)) B E L ms := by
  have hl := pcsOf_len (L := L) (ms := ms) hB hE
  refine ⟨hB, hE, ?_, fun h => ?_, fun j hj => ?_, fun h => ?_⟩
  · unfold cdOf; rw [if_pos rfl]
  · have := cdOf_at (pcs := pcsOf B E L ms) (i := 0) (q := ⟨2, noBytes⟩) (by omega) (by rw [hl, show B + (L + E) - 1 - 0 = B + L by omega]; exact pcsOf_end hB h)
    rw [this]; exact ⟨rfl, rfl⟩
  · have := cdOf_at (pcs := pcsOf B E L ms) (i := E + L - j - 1) (q := ⟨0, ms j⟩) (by omega) (by rw [hl, show B + (L + E) - 1 - (E + L - j - 1) = B + j by omega]; exact pcsOf_byte hB j hj)
    rw [show E + L - j - 1 + 1 = E + L - j by omega] at this
    rw [this]; exact ⟨rfl, rfl, rfl, rfl⟩
  · have := cdOf_at (pcs := pcsOf B E L ms) (i := E + L) (q := ⟨1, noBytes⟩) (by omega) (by rw [hl, show B + (L + E) - 1 - (E + L) = 0 by omega]; exact pcsOf_begin h)
    rw [this]; exact ⟨rfl, rfl⟩
end

theorem cdOf_kind (pcs : List Pc) (hk : ∀ q ∈ pcs, q.kind ≤ 2) (a : Nat) (ha : a < 1 + pcs.length) : (cdOf pcs a).kind ≤ 2 ∨ (cdOf pcs a).kind = 6 := by
  match a, ha with
  | 0, _ => right; unfold cdOf; rw [if_pos rfl]
  | i + 1, ha =>
    left
    obtain ⟨q, hq⟩ : ∃ q, pcs.reverse[i]? = some q := ⟨pcs.reverse[i]'(by simp; omega), List.getElem?_eq_getElem (by simp; omega)⟩
    have hm : q ∈ pcs := List.mem_reverse.1 (List.mem_of_getElem? hq)
    have := hk q hm
    unfold cdOf
    rw [if_neg (by omega), show i + 1 - 1 = i by omega, hq]
    by_cases h0 : q.kind = 0
    · simp only [h0, if_true]; omega
    · simp only [h0, if_false]; omega

set_option maxRecDepth 100000 in
set_option maxHeartbeats 1000000 in
theorem match_row {src text : ByteArray} {B E L : Nat} {ms : Nat → Nat → Bool} {w : World} (hw : Nm w) (hs : src.size ≤ 100) (ht : text.size ≤ 1000) (hB : B ≤ 1) (hE : E ≤ 1) (hL : L ≤ 150) (hp : ∀ b, b ≠ 0 → RowOk b src 0 0 ((pcsOf B E L ms).map Pc.val)) :
    Calls Tryd.prog 13 #[.string src, .string text] w fun e w' => Kp [] w w' ∧
      ((∃ a, Stands B E L ms text a ∧ (∀ b, b < a → ¬ Stands B E L ms text b) ∧ ∃ b q, e = .returned (.tuple #[.slice (some ⟨b, 0, none⟩) 2 q, .int .i64 0, .int .i64 0]) ∧ w'.cell? ⟨b, 0, none⟩ = some (.int .i64 a) ∧ w'.cell? ⟨b, 1, none⟩ = some (.int .i64 ((a + L : Nat) : Int))) ∨
       ((∀ a, ¬ Stands B E L ms text a) ∧ e = .returned (.tuple #[.slice none 0 0, .int .i64 0, .int .i64 0]))) := by
  have hlen := pcsOf_len (L := L) (ms := ms) hB hE
  have h200 : (pcsOf B E L ms).length ≤ 200 := by omega
  have hts : ¬ (1000 : Int) < text.size := by omega
  have HLEN := hid hlen
  clear hlen
  go_enter Tryd.func13, Tryd.ntmps13
  go_wp2_with fail
  refine (readPattern_gen hw hs (by omega) (reads_row h200 hp)).mono ?_
  rintro e w1 ⟨p, rfl, pt, k1⟩
  obtain ⟨g, c, hcd⟩ := cd_of pt (fun q hq => pcsOf_kind q hq)
  have c1 := pt.c1
  have c2 := pt.c2
  have ebg : rowBegin (pcsOf B E L ms).reverse 1 0 = ((B + (L + E) : Nat) : Int) := by
    rw [rowBegin_eq]
    by_cases h0 : (pcsOf B E L ms).reverse = []
    · rw [if_pos h0]
      have : (pcsOf B E L ms).length = 0 := by rw [← List.length_reverse, h0]; rfl
      have h3 : B + (L + E) = 0 := by have := HLEN.out; omega
      rw [h3]; rfl
    · rw [if_neg h0, List.length_reverse, HLEN.out]; congr 1; omega
  rw [ebg] at c1
  have HCD := hid (And.intro hcd (And.intro c1 c2))
  clear hcd pt c1 c2 hp ebg
  go_wp2_with fail
  refine (find_any (bg := B + (L + E)) (G := 0) HCD.out.1 HCD.out.2.1 HCD.out.2.2 (by have := HLEN.out; omega) (by have := HLEN.out; omega) (by omega) (by omega)).mono ?_
  rintro e w2 ⟨k2, s', runs, hres⟩
  have hok : Cok (cdOf (pcsOf B E L ms)) (1 + (pcsOf B E L ms).length) 0 (E + L + B) := ⟨HCD.out.1.ok, fun a ha h3 => absurd h3 (by have := (cdOf_kind (pcsOf B E L ms) (fun q hq => pcsOf_kind q hq) a ha); omega), by have := HLEN.out; omega⟩
  rw [show B + (L + E) = E + L + B by omega] at runs
  have en := runs_row hok (chain_of hB hE) runs
  have EN := hid en
  clear en runs
  rcases hres with ⟨hfd, rfl⟩ | ⟨hfd, b, q, rfl, hc⟩
  · go_wp2_with fail
    go_ret3
    refine ⟨k1.trans k2, .inr ⟨?_, rfl⟩⟩
    rcases EN.out with ⟨a, _, _, q, _⟩ | ⟨q, _⟩
    · rw [hfd] at q; cases q
    · exact q
  · go_wp2_with fail
    go_ret3
    refine ⟨k1.trans k2, .inl ?_⟩
    rcases EN.out with ⟨a, st, mn, _, hb⟩ | ⟨_, q⟩
    · refine ⟨a, st, mn, b, q, rfl, ?_, ?_⟩
      · rw [hc 0 (by omega), hb]; simp [nu, nz]
      · rw [hc 1 (by omega), hb]; simp [nu]
    · rw [hfd] at q; cases q

/-- found says what is so: the first place, or none. -/
def Says (B E L : Nat) (ms : Nat → Nat → Bool) (text : ByteArray) (fr to : Int) : Prop :=
  (∃ a : Nat, Stands B E L ms text a ∧ (∀ b, b < a → ¬ Stands B E L ms text b) ∧ fr = a ∧ to = ((a + L : Nat) : Int)) ∨ ((∀ a, ¬ Stands B E L ms text a) ∧ fr = -1)

set_option maxRecDepth 100000 in
set_option maxHeartbeats 1000000 in
theorem found_row {src text : ByteArray} {B E L : Nat} {ms : Nat → Nat → Bool} {w : World} (hw : Nm w) (hs : src.size ≤ 100) (ht : text.size ≤ 1000) (hB : B ≤ 1) (hE : E ≤ 1) (hL : L ≤ 150) (hp : ∀ b, b ≠ 0 → RowOk b src 0 0 ((pcsOf B E L ms).map Pc.val))
    {fr to : Int} (hsay : Says B E L ms text fr to) :
    Calls Tryd.prog 10 #[.string src, .string text, .int .i64 fr, .int .i64 to] w fun e w' => e = .returned (.bool true) ∧ Kp [] w w' := by
  have HS := hid hsay
  clear hsay
  go_enter Tryd.func10, Tryd.ntmps10
  go_wp2_with fail
  refine (match_row hw hs ht hB hE hL hp).mono ?_
  rintro e w1 ⟨k1, ⟨a, st, mn, b, q, rfl, c0, c1⟩ | ⟨no, rfl⟩⟩
  · have hfr : fr = (a : Int) ∧ to = ((a + L : Nat) : Int) := by
      rcases HS.out with ⟨a', st', mn', h1, h2⟩ | ⟨no, _⟩
      · have : a' = a := by
          rcases Nat.lt_trichotomy a' a with q | q | q
          · exact absurd st' (mn a' q)
          · exact q
          · exact absurd st (mn' a q)
        subst this
        exact ⟨h1, h2⟩
      · exact absurd st (no a)
    obtain ⟨rfl, rfl⟩ := hfr
    have hneg : ¬ (a : Int) < 0 := by omega
    clear hp st mn HS
    go_wp2_with fail
    go_ret
    exact ⟨rfl, k1⟩
  · have hfr : fr = -1 := by
      rcases HS.out with ⟨a', st', _⟩ | ⟨_, h⟩
      · exact absurd st' (no a')
      · exact h
    subst hfr
    clear hp no HS
    go_wp2_with fail
    go_ret
    exact ⟨rfl, k1⟩
end Go.Proofs.YtanpiomfnbiilaaDoor
