/- The law's helpers: which of some, numbers as they are written, words. -/
import Derived.Test.YtonnimbcekhbgaaGreatDoorEW
import Derived.Laws.IdiomStrings
import Derived.WalkLawsBesides
import Derived.Deep.RegionWith
import Derived.Deep.LoopGhost
namespace Go.Proofs.YtonnimbcekhbgaaGreatDoor
open Go.RowKit

theorem wrap_u8_nat (k : Nat) (h : k < 256) : IntKind.u8.wrap (k : Int) = (k : Int) := by rw [IntKind.wrap_u8]; omega
theorem conv_byte (W : World) (x : UInt8) : (convert 34 9 (.slice (some ⟨W.heap.size, 0, none⟩) 1 1)).run Tryz.prog (W.alloc (.cells #[.int .u8 (x.toNat : Int)] 5)) =
    .ok (.string ⟨#[x]⟩) (W.alloc (.cells #[.int .u8 (x.toNat : Int)] 5)) :=
  run_convert_bytes_back (P := Tryz.prog) _ 34 9 5 ⟨W.heap.size, 0, none⟩ 1 [x] (by kernel_rfl) (by kernel_rfl) (by kernel_rfl) (fun j hj => by
    have e : j = 0 := by simp at hj; exact hj
    subst e
    simp [go_sem])

/-- pick, as a number. -/
def pk (c n : Int) : Int := (if c < 0 then -(c + 1) else c) % n
theorem pk_bd (c n : Int) (h : 0 < n) : 0 ≤ pk c n ∧ pk c n < n := ⟨Int.emod_nonneg _ (by omega), Int.emod_lt_of_pos _ h⟩

theorem ret_i64 {a b : Int} (h : a = b) : Ending.returned (.int .i64 a) = .returned (.int .i64 b) := by rw [h]

set_option maxHeartbeats 400000 in
theorem pick_any (c n : Int) (h1 : -9223372036854775808 ≤ c) (h2 : c ≤ 9223372036854775807) (h3 : 0 < n) (h4 : n ≤ 1099511627776) (w : World) :
    Calls Tryz.prog 11 #[.int .i64 c, .int .i64 n] w fun e w' => e = .returned (.int .i64 (pk c n)) ∧ w' = w := by
  by_cases hc : c < 0
  · have hn : ¬ n = 0 := by omega
    go_enter Tryz.func11, Tryz.ntmps11
    go_wp2
    go_ret
    refine ⟨?_, rfl⟩
    refine ret_i64 ?_
    unfold pk
    rw [if_pos hc, ← Int.neg_tmod, Int.tmod_eq_emod_of_nonneg (by omega)]
  · have hn : ¬ n = 0 := by omega
    go_enter Tryz.func11, Tryz.ntmps11
    go_wp2
    go_ret
    refine ⟨?_, rfl⟩
    refine ret_i64 ?_
    unfold pk
    rw [if_neg (by omega)]


/-- A slice of numbers. -/
structure NumsIn (w : World) (A : Option Addr) (n : Nat) (z : Nat → Int) : Prop where
  at_ : ∀ j, j < n → ∃ ad, A = some ad ∧ w.cell? (ad.add j) = some (.int .i64 (z j))
  bd : ∀ j, j < n → -9223372036854775808 ≤ z j ∧ z j ≤ 9223372036854775807
theorem NumsIn.keep {w w' : World} {A : Option Addr} {n : Nat} {z : Nat → Int} (h : NumsIn w A n z) (k : Kp [] w w') : NumsIn w' A n z :=
  ⟨fun j hj => by
    obtain ⟨ad, e, hc⟩ := h.at_ j hj
    exact ⟨ad, e, (k.cell (World.block_lt_of_cell? _ _ hc) (by simp)).trans hc⟩, h.bd⟩

/-- A number up to 99 as it is written. -/
def dg (n : Nat) : ByteArray := if n < 10 then ⟨#[(48 + n).toUInt8]⟩ else ⟨#[(48 + n / 10).toUInt8, (48 + n % 10).toUInt8]⟩

theorem conv_nat (W : World) (c : Nat) (hc : c < 256) : (convert 34 9 (.slice (some ⟨W.heap.size, 0, none⟩) 1 1)).run Tryz.prog (W.alloc (.cells #[.int .u8 (c : Int)] 5)) = .ok (.string ⟨#[c.toUInt8]⟩) (W.alloc (.cells #[.int .u8 (c : Int)] 5)) := by
  have h := conv_byte W c.toUInt8
  have e : ((c.toUInt8).toNat : Int) = (c : Int) := by
    have : (c.toUInt8).toNat = c := by show c % 256 = c; omega
    rw [this]
  rw [e] at h
  exact h

theorem conv_cell (c : Nat) (hc : c < 256) (W : World) (g : Nat) (h : W.cell? ⟨g, 0, none⟩ = some (.int .u8 (c : Int))) : (convert 34 9 (.slice (some ⟨g, 0, none⟩) 1 1)).run Tryz.prog W = .ok (.string ⟨#[c.toUInt8]⟩) W :=
  run_convert_bytes_back (P := Tryz.prog) _ 34 9 5 ⟨g, 0, none⟩ 1 [c.toUInt8] (by kernel_rfl) (by kernel_rfl) (by kernel_rfl) (fun j hj => by
    have e : j = 0 := by simp at hj; exact hj
    subst e
    have e2 : (c.toUInt8).toNat = c := by show c % 256 = c; omega
    show W.cell? ⟨g, 0, none⟩ = some (.int .u8 ((c.toUInt8).toNat : Int))
    rw [e2]; exact h)

set_option maxRecDepth 100000 in
set_option maxHeartbeats 800000 in
theorem digits_one (n : Nat) (hn : n < 10) (w : World) : Calls Tryz.prog 10 #[.int .i64 n] w fun e w' => e = .returned (.string ⟨#[(48 + n).toUInt8]⟩) ∧ Kp [] w w' := by
  have hlt : (n : Int) < 10 := by omega
  obtain ⟨c, hc⟩ : ∃ c : Nat, c = 48 + n := ⟨_, rfl⟩
  have hsum : (48 : Int) + (n : Int) = (c : Int) := by omega
  have w1 := wrap_i64_nat c (by omega)
  have w2 := wrap_u8_nat c (by omega)
  have kc := conv_nat w c (by omega)
  rw [← hc]
  clear hc
  go_enter Tryz.func10, Tryz.ntmps10
  go_wp2
  go_ret
  exact ⟨rfl, Kp.alloc _ _ _⟩

theorem conv_lett (X : UInt8) (W : World) (g : Nat) (c : Nat) (hc : c = X.toNat) (h : W.cell? ⟨g, 0, none⟩ = some (.int .u8 (c : Int))) : (convert 34 9 (.slice (some ⟨g, 0, none⟩) 1 1)).run Tryz.prog W = .ok (.string ⟨#[X]⟩) W := by
  have hx := X.toNat_lt
  have := conv_cell c (by omega) W g h
  rw [show c.toUInt8 = X by rw [hc]; exact UInt8.ofNat_toNat] at this
  exact this

theorem conv_lett0 (X : UInt8) (W : World) (c : Nat) (hc : c = X.toNat) : (convert 34 9 (.slice (some ⟨W.heap.size, 0, none⟩) 1 1)).run Tryz.prog (W.alloc (.cells #[.int .u8 (c : Int)] 5)) = .ok (.string ⟨#[X]⟩) (W.alloc (.cells #[.int .u8 (c : Int)] 5)) := by
  have hx := X.toNat_lt
  have := conv_nat W c (by omega)
  rw [show c.toUInt8 = X by rw [hc]; exact UInt8.ofNat_toNat] at this
  exact this

set_option maxRecDepth 100000 in
set_option maxHeartbeats 1600000 in
theorem digits_two (n : Nat) (h1 : 10 ≤ n) (h2 : n < 100) (w : World) : Calls Tryz.prog 10 #[.int .i64 n] w fun e w' => e = .returned (.string ⟨#[(48 + n / 10).toUInt8, (48 + n % 10).toUInt8]⟩) ∧ Kp [] w w' := by
  have hlt : ¬ (n : Int) < 10 := by omega
  obtain ⟨q, hq⟩ : ∃ q : Nat, q = n / 10 := ⟨_, rfl⟩
  obtain ⟨r, hr⟩ : ∃ r : Nat, r = n % 10 := ⟨_, rfl⟩
  have hdiv : (n : Int) / 10 = (q : Int) := by omega
  have hmod : (n : Int).tmod 10 = (r : Int) := by rw [Int.tmod_eq_emod_of_nonneg (by omega)]; omega
  have hdiv2 : (n : Int).tdiv 10 = (q : Int) := by rw [Int.tdiv_eq_ediv_of_nonneg (by omega)]; omega
  have hq10 : q < 10 := by omega
  have D1 := digits_one q hq10
  obtain ⟨X, hX⟩ : ∃ X : UInt8, X = (48 + q).toUInt8 := ⟨_, rfl⟩
  obtain ⟨Y, hY⟩ : ∃ Y : UInt8, Y = (48 + r).toUInt8 := ⟨_, rfl⟩
  obtain ⟨c, hc⟩ : ∃ c : Nat, c = 48 + r := ⟨_, rfl⟩
  have hsum : (48 : Int) + (r : Int) = (c : Int) := by omega
  have w1 := wrap_i64_nat c (by omega)
  have w2 := wrap_u8_nat c (by omega)
  have w3 := wrap_i64_nat q (by omega)
  have w4 := wrap_i64_nat r (by omega)
  have hcY : c = Y.toNat := by rw [hY, hc]; show 48 + r = (48 + r) % 256; omega
  have kc := fun W g => conv_lett Y W g c hcY
  have kc0 := fun W => conv_lett0 Y W c hcY
  rw [← hq, ← hr, ← hX, ← hY]
  simp only [← hX] at D1
  have hlen : ¬ 9223372036854775807 < (⟨#[X]⟩ : ByteArray).size + (⟨#[Y]⟩ : ByteArray).size := by show ¬ 9223372036854775807 < 1 + 1; omega
  have happ : (⟨#[X]⟩ : ByteArray) ++ ⟨#[Y]⟩ = ⟨#[X, Y]⟩ := rfl
  clear hc hq hr hX hY hcY
  go_enter Tryz.func10, Tryz.ntmps10
  go_wp2
  have kn0 := kc0 w
  have kn1 := kc0 w.drew
  go_region_with (go_at_call 10; refine (D1 _).mono ?_; rintro e w5 ⟨rfl, k5⟩; have kn5 := kc0 w5; have ck := k5.cell (p := ⟨w.heap.size, 0, none⟩); (try simp at ck))
  all_goals (try go_wp2)
  all_goals go_ret
  all_goals refine ⟨?_, ?_⟩
  all_goals first | rfl | skip
  all_goals first | exact (Kp.drew _ _).trans (k5.trans (Kp.alloc _ _ _)) | exact (Kp.drew _ _).trans ((Kp.alloc _ _ _).trans k5)

theorem digits_any (n : Nat) (h2 : n < 100) (w : World) : Calls Tryz.prog 10 #[.int .i64 n] w fun e w' => e = .returned (.string (dg n)) ∧ Kp [] w w' := by
  by_cases h : n < 10
  · have := digits_one n h w
    rw [show dg n = ⟨#[(48 + n).toUInt8]⟩ by unfold dg; rw [if_pos h]]
    exact this
  · have := digits_two n (by omega) h2 w
    rw [show dg n = ⟨#[(48 + n / 10).toUInt8, (48 + n % 10).toUInt8]⟩ by unfold dg; rw [if_neg h]]
    exact this
theorem conv_lit97 (W : World) : (convert 34 9 (.slice (some ⟨W.heap.size, 0, none⟩) 1 1)).run Tryz.prog (W.alloc (.cells #[.int .u8 97] 5)) = .ok (.string ⟨#[97]⟩) (W.alloc (.cells #[.int .u8 97] 5)) := conv_nat W 97 (by omega)
theorem conv_lit98 (W : World) : (convert 34 9 (.slice (some ⟨W.heap.size, 0, none⟩) 1 1)).run Tryz.prog (W.alloc (.cells #[.int .u8 98] 5)) = .ok (.string ⟨#[98]⟩) (W.alloc (.cells #[.int .u8 98] 5)) := conv_nat W 98 (by omega)
theorem conv_lit99 (W : World) : (convert 34 9 (.slice (some ⟨W.heap.size, 0, none⟩) 1 1)).run Tryz.prog (W.alloc (.cells #[.int .u8 99] 5)) = .ok (.string ⟨#[99]⟩) (W.alloc (.cells #[.int .u8 99] 5)) := conv_nat W 99 (by omega)
theorem lett_snoc {S : ByteArray} {c : UInt8} (h : ∀ u ∈ S.data.toList, u = 97 ∨ u = 98 ∨ u = 99) (hc : c = 97 ∨ c = 98 ∨ c = 99) : ∀ u ∈ (S ++ ⟨#[c]⟩ : ByteArray).data.toList, u = 97 ∨ u = 98 ∨ u = 99 := by
  intro u hu
  rw [ByteArray.data_append, Array.toList_append] at hu
  rcases List.mem_append.1 hu with q | q
  · exact h u q
  · rw [List.mem_singleton.1 (show u ∈ [c] from q)]; exact hc
set_option maxRecDepth 100000 in
set_option maxHeartbeats 2000000 in
theorem word_any (raw most : Int) (h1 : -9223372036854775808 ≤ raw) (h2 : raw ≤ 9223372036854775807) (h3 : 0 < most) (h4 : most ≤ 6) (w : World) :
    Calls Tryz.prog 14 #[.int .i64 raw, .int .i64 most] w fun e w' => ∃ W : ByteArray, e = .returned (.string W) ∧ (∀ u ∈ W.data.toList, u = 97 ∨ u = 98 ∨ u = 99) ∧ (W.size : Int) ≤ most ∧ Kp [] w w' := by
  go_enter Tryz.func14, Tryz.ntmps14
  go_wp2_with fail
  refine (pick_any raw most h1 h2 h3 (by omega) _).mono ?_
  rintro e w1 ⟨rfl, rfl⟩
  obtain ⟨p1, p2⟩ := pk_bd raw most h3
  obtain ⟨n, hn⟩ : ∃ n : Nat, pk raw most + 1 = (n : Int) := ⟨(pk raw most + 1).toNat, by omega⟩
  obtain ⟨z, hz⟩ : ∃ z, pk raw most = z := ⟨_, rfl⟩
  rw [hz] at hn p1 p2 ⊢
  clear hz
  have wn := wrap_i64_nat n (by omega)
  go_wp2_with fail
  obtain ⟨y, hy⟩ : ∃ y, raw.tdiv 7 = y := ⟨_, rfl⟩
  have hyb : -9223372036854775808 ≤ y ∧ y ≤ 9223372036854775807 := by
    rw [← hy]
    rcases Int.le_total 0 raw with h | h
    · rw [Int.tdiv_eq_ediv_of_nonneg h]; omega
    · rw [show raw = -(-raw) by omega, Int.neg_tdiv, Int.tdiv_eq_ediv_of_nonneg (by omega)]; omega
  rw [hy]
  clear hy
  refine (pick_any y 1099511627776 hyb.1 hyb.2 (by omega) (by omega) _).mono ?_
  rintro e w2 ⟨rfl, rfl⟩
  obtain ⟨q1, q2⟩ := pk_bd y 1099511627776 (by omega)
  obtain ⟨r0, hr0⟩ : ∃ r0 : Nat, pk y 1099511627776 = (r0 : Int) := ⟨(pk y 1099511627776).toNat, by omega⟩
  rw [hr0] at q1 q2 ⊢
  have hnb : 1 ≤ n ∧ (n : Int) ≤ most := by omega
  clear hr0 hyb hn p1 p2
  go_wp2_with fail
  go_loopw [0, 6, 7] (fun rv s i wr => ∃ (k r : Nat) (S : ByteArray), k ≤ n ∧ r < 1099511627776 ∧ rv = .int .i64 r ∧ s = .string S ∧ i = .int .i64 k ∧ S.size = k ∧ Hid (∀ u ∈ S.data.toList, u = 97 ∨ u = 98 ∨ u = 99) ∧ Kp [] w2 wr) (fun _ _ i _ => n - (intOf i).toNat)
  case atStart => exact ⟨0, r0, ⟨#[]⟩, by omega, by omega, rfl, rfl, rfl, rfl, hid (fun u hu => by cases hu), Kp.refl _ _⟩
  case round =>
    obtain ⟨k, r, S, hk, hr, rfl, rfl, rfl, hS, HS, kp⟩ := hrel
    by_cases hlt : k < n
    · obtain ⟨k1, hk1⟩ : ∃ k1 : Nat, (k : Int) + 1 = (k1 : Int) := ⟨k + 1, by omega⟩
      have wk1 := wrap_i64_nat k1 (by omega)
      have HK := hid (show k1 = k + 1 by omega)
      obtain ⟨d, hd⟩ : ∃ d : Nat, (r : Int).tdiv 5 = (d : Int) ∧ d < 1099511627776 := ⟨r / 5, by rw [Int.tdiv_eq_ediv_of_nonneg (by omega)]; omega, by omega⟩
      obtain ⟨hd1, hd2⟩ := hd
      have wd := wrap_i64_nat d (by omega)
      have hm : (r : Int).tmod 5 = (r : Int) % 5 := Int.tmod_eq_emod_of_nonneg (by omega)
      have hz1 : ¬ 9223372036854775807 < S.size + 1 := by omega
      rcases (show (r : Int) % 5 = 0 ∨ (r : Int) % 5 = 1 ∨ (r : Int) % 5 = 2 ∨ (r : Int) % 5 = 3 ∨ (r : Int) % 5 = 4 by omega) with h5 | h5 | h5 | h5 | h5
      · have hmm : (r : Int).tmod 5 = 0 := by rw [hm]; omega
        have ix : ((((⟨#[97, 97, 98, 98, 99]⟩ : ByteArray)[0]'(by decide)).toNat : Nat) : Int) = 97 := rfl
        have kc := conv_lit97 wr
        clear hm
        go_wp2_with fail
        refine ⟨⟨k1, d, _, by omega, hd2, rfl, rfl, rfl, ?_, hid ?_, kp.trans (Kp.alloc _ _ _)⟩, by simp [intOf]; omega⟩
        · rw [ByteArray.size_append, hS]; exact HK.out.symm
        · exact lett_snoc HS.out (by decide)
      · have hmm : (r : Int).tmod 5 = 1 := by rw [hm]; omega
        have ix : ((((⟨#[97, 97, 98, 98, 99]⟩ : ByteArray)[1]'(by decide)).toNat : Nat) : Int) = 97 := rfl
        have kc := conv_lit97 wr
        clear hm
        go_wp2_with fail
        refine ⟨⟨k1, d, _, by omega, hd2, rfl, rfl, rfl, ?_, hid ?_, kp.trans (Kp.alloc _ _ _)⟩, by simp [intOf]; omega⟩
        · rw [ByteArray.size_append, hS]; exact HK.out.symm
        · exact lett_snoc HS.out (by decide)
      · have hmm : (r : Int).tmod 5 = 2 := by rw [hm]; omega
        have ix : ((((⟨#[97, 97, 98, 98, 99]⟩ : ByteArray)[2]'(by decide)).toNat : Nat) : Int) = 98 := rfl
        have kc := conv_lit98 wr
        clear hm
        go_wp2_with fail
        refine ⟨⟨k1, d, _, by omega, hd2, rfl, rfl, rfl, ?_, hid ?_, kp.trans (Kp.alloc _ _ _)⟩, by simp [intOf]; omega⟩
        · rw [ByteArray.size_append, hS]; exact HK.out.symm
        · exact lett_snoc HS.out (by decide)
      · have hmm : (r : Int).tmod 5 = 3 := by rw [hm]; omega
        have ix : ((((⟨#[97, 97, 98, 98, 99]⟩ : ByteArray)[3]'(by decide)).toNat : Nat) : Int) = 98 := rfl
        have kc := conv_lit98 wr
        clear hm
        go_wp2_with fail
        refine ⟨⟨k1, d, _, by omega, hd2, rfl, rfl, rfl, ?_, hid ?_, kp.trans (Kp.alloc _ _ _)⟩, by simp [intOf]; omega⟩
        · rw [ByteArray.size_append, hS]; exact HK.out.symm
        · exact lett_snoc HS.out (by decide)
      · have hmm : (r : Int).tmod 5 = 4 := by rw [hm]; omega
        have ix : ((((⟨#[97, 97, 98, 98, 99]⟩ : ByteArray)[4]'(by decide)).toNat : Nat) : Int) = 99 := rfl
        have kc := conv_lit99 wr
        clear hm
        go_wp2_with fail
        refine ⟨⟨k1, d, _, by omega, hd2, rfl, rfl, rfl, ?_, hid ?_, kp.trans (Kp.alloc _ _ _)⟩, by simp [intOf]; omega⟩
        · rw [ByteArray.size_append, hS]; exact HK.out.symm
        · exact lett_snoc HS.out (by decide)
    · go_wp2_with fail
      go_ret
      obtain rfl : n = k := by omega
      exact ⟨S, rfl, HS.out, by omega, kp⟩

end Go.Proofs.YtonnimbcekhbgaaGreatDoor
