/- What the claim needs of: FOToFZ FQ KC. -/
import Derived.Test.YtonnimbcekhbgaaGreatDoorX10
import Derived.Laws.IdiomStrings
import Derived.WalkLawsBesides
import Derived.Deep.RegionWith
import Derived.Deep.LoopGhost
import Derived.Test.YtonnimbcekhbgaaGreatDoorX14
import Derived.Test.YtonnimbcekhbgaaGreatDoorX00
import Derived.Lib.Bytealg
import Derived.Test.YtonnimbcekhbgaaGreatDoorX19
import Derived.Test.YtonnimbcekhbgaaGreatDoorX11
import Derived.Test.YtonnimbcekhbgaaGreatDoorX06

/- FOToFZ. -/
namespace Go.Proofs.YtonnimbcekhbgaaGreatDoor
open Go.RowKit

theorem conv_byte (W : World) (x : UInt8) : (convert 34 9 (.slice (some ⟨W.heap.size, 0, none⟩) 1 1)).run Tryz.prog (W.alloc (.cells #[.int .u8 (x.toNat : Int)] 5)) =
    .ok (.string ⟨#[x]⟩) (W.alloc (.cells #[.int .u8 (x.toNat : Int)] 5)) :=
  run_convert_bytes_back (P := Tryz.prog) _ 34 9 5 ⟨W.heap.size, 0, none⟩ 1 [x] (by kernel_rfl) (by kernel_rfl) (by kernel_rfl) (fun j hj => by
    have e : j = 0 := by simp at hj; exact hj
    subst e
    simp [go_sem])

/-- pick, as a number. -/
def pk (c n : Int) : Int := (if c < 0 then -(c + 1) else c) % n
theorem pk_bd (c n : Int) (h : 0 < n) : 0 ≤ pk c n ∧ pk c n < n := ⟨Int.emod_nonneg _ (by omega), Int.emod_lt_of_pos _ h⟩

theorem ret_i64 {a b : Int} (h : a = b) : Ending.returned (.int .i64 a) = .returned (.int .i64 b) := by rw [h]

set_option maxHeartbeats 400000 in
theorem pick_any (c n : Int) (h1 : -9223372036854775808 ≤ c) (h2 : c ≤ 9223372036854775807) (h3 : 0 < n) (h4 : n ≤ 1099511627776) (w : World) :
    Calls Tryz.prog 11 #[.int .i64 c, .int .i64 n] w fun e w' => e = .returned (.int .i64 (pk c n)) ∧ w' = w := by
  by_cases hc : c < 0
  · have hn : ¬ n = 0 := by omega
    go_enter Tryz.func11, Tryz.ntmps11
    go_wp2
    go_ret
    refine ⟨?_, rfl⟩
    refine ret_i64 ?_
    unfold pk
    rw [if_pos hc, ← Int.neg_tmod, Int.tmod_eq_emod_of_nonneg (by omega)]
  · have hn : ¬ n = 0 := by omega
    go_enter Tryz.func11, Tryz.ntmps11
    go_wp2
    go_ret
    refine ⟨?_, rfl⟩
    refine ret_i64 ?_
    unfold pk
    rw [if_neg (by omega)]


/-- A slice of numbers. -/
structure NumsIn (w : World) (A : Option Addr) (n : Nat) (z : Nat → Int) : Prop where
  at_ : ∀ j, j < n → ∃ ad, A = some ad ∧ w.cell? (ad.add j) = some (.int .i64 (z j))
  bd : ∀ j, j < n → -9223372036854775808 ≤ z j ∧ z j ≤ 9223372036854775807
theorem NumsIn.keep {w w' : World} {A : Option Addr} {n : Nat} {z : Nat → Int} (h : NumsIn w A n z) (k : Kp [] w w') : NumsIn w' A n z :=
  ⟨fun j hj => by
    obtain ⟨ad, e, hc⟩ := h.at_ j hj
    exact ⟨ad, e, (k.cell (World.block_lt_of_cell? _ _ hc) (by simp)).trans hc⟩, h.bd⟩

theorem conv_nat (W : World) (c : Nat) (hc : c < 256) : (convert 34 9 (.slice (some ⟨W.heap.size, 0, none⟩) 1 1)).run Tryz.prog (W.alloc (.cells #[.int .u8 (c : Int)] 5)) = .ok (.string ⟨#[c.toUInt8]⟩) (W.alloc (.cells #[.int .u8 (c : Int)] 5)) := by
  have h := conv_byte W c.toUInt8
  have e : ((c.toUInt8).toNat : Int) = (c : Int) := by
    have : (c.toUInt8).toNat = c := by show c % 256 = c; omega
    rw [this]
  rw [e] at h
  exact h

theorem conv_lit97 (W : World) : (convert 34 9 (.slice (some ⟨W.heap.size, 0, none⟩) 1 1)).run Tryz.prog (W.alloc (.cells #[.int .u8 97] 5)) = .ok (.string ⟨#[97]⟩) (W.alloc (.cells #[.int .u8 97] 5)) := conv_nat W 97 (by omega)
theorem conv_lit98 (W : World) : (convert 34 9 (.slice (some ⟨W.heap.size, 0, none⟩) 1 1)).run Tryz.prog (W.alloc (.cells #[.int .u8 98] 5)) = .ok (.string ⟨#[98]⟩) (W.alloc (.cells #[.int .u8 98] 5)) := conv_nat W 98 (by omega)
theorem conv_lit99 (W : World) : (convert 34 9 (.slice (some ⟨W.heap.size, 0, none⟩) 1 1)).run Tryz.prog (W.alloc (.cells #[.int .u8 99] 5)) = .ok (.string ⟨#[99]⟩) (W.alloc (.cells #[.int .u8 99] 5)) := conv_nat W 99 (by omega)
theorem lett_snoc {S : ByteArray} {c : UInt8} (h : ∀ u ∈ S.data.toList, u = 97 ∨ u = 98 ∨ u = 99) (hc : c = 97 ∨ c = 98 ∨ c = 99) : ∀ u ∈ (S ++ ⟨#[c]⟩ : ByteArray).data.toList, u = 97 ∨ u = 98 ∨ u = 99 := by
  intro u hu
  rw [ByteArray.data_append, Array.toList_append] at hu
  rcases List.mem_append.1 hu with q | q
  · exact h u q
  · rw [List.mem_singleton.1 (show u ∈ [c] from q)]; exact hc
set_option maxRecDepth 100000 in
set_option maxHeartbeats 2000000 in
theorem word_any (raw most : Int) (h1 : -9223372036854775808 ≤ raw) (h2 : raw ≤ 9223372036854775807) (h3 : 0 < most) (h4 : most ≤ 6) (w : World) :
    Calls Tryz.prog 14 #[.int .i64 raw, .int .i64 most] w fun e w' => ∃ W : ByteArray, e = .returned (.string W) ∧ (∀ u ∈ W.data.toList, u = 97 ∨ u = 98 ∨ u = 99) ∧ ((W.size : Int) ≤ most ∧ 1 ≤ W.size) ∧ Kp [] w w' := by
  go_enter Tryz.func14, Tryz.ntmps14
  go_wp2_with fail
  refine (pick_any raw most h1 h2 h3 (by omega) _).mono ?_
  rintro e w1 ⟨rfl, rfl⟩
  obtain ⟨p1, p2⟩ := pk_bd raw most h3
  obtain ⟨n, hn⟩ : ∃ n : Nat, pk raw most + 1 = (n : Int) := ⟨(pk raw most + 1).toNat, by omega⟩
  obtain ⟨z, hz⟩ : ∃ z, pk raw most = z := ⟨_, rfl⟩
  rw [hz] at hn p1 p2 ⊢
  clear hz
  have wn := wrap_i64_nat n (by omega)
  go_wp2_with fail
  obtain ⟨y, hy⟩ : ∃ y, raw.tdiv 7 = y := ⟨_, rfl⟩
  have hyb : -9223372036854775808 ≤ y ∧ y ≤ 9223372036854775807 := by
    rw [← hy]
    rcases Int.le_total 0 raw with h | h
    · rw [Int.tdiv_eq_ediv_of_nonneg h]; omega
    · rw [show raw = -(-raw) by omega, Int.neg_tdiv, Int.tdiv_eq_ediv_of_nonneg (by omega)]; omega
  rw [hy]
  clear hy
  refine (pick_any y 1099511627776 hyb.1 hyb.2 (by omega) (by omega) _).mono ?_
  rintro e w2 ⟨rfl, rfl⟩
  obtain ⟨q1, q2⟩ := pk_bd y 1099511627776 (by omega)
  obtain ⟨r0, hr0⟩ : ∃ r0 : Nat, pk y 1099511627776 = (r0 : Int) := ⟨(pk y 1099511627776).toNat, by omega⟩
  rw [hr0] at q1 q2 ⊢
  have hnb : 1 ≤ n ∧ (n : Int) ≤ most := by omega
  clear hr0 hyb hn p1 p2
  go_wp2_with fail
  go_loopw [0, 6, 7] (fun rv s i wr => ∃ (k r : Nat) (S : ByteArray), k ≤ n ∧ r < 1099511627776 ∧ rv = .int .i64 r ∧ s = .string S ∧ i = .int .i64 k ∧ S.size = k ∧ Hid (∀ u ∈ S.data.toList, u = 97 ∨ u = 98 ∨ u = 99) ∧ Kp [] w2 wr) (fun _ _ i _ => n - (intOf i).toNat)
  case atStart => exact ⟨0, r0, ⟨#[]⟩, by omega, by omega, rfl, rfl, rfl, rfl, hid (fun u hu => by cases hu), Kp.refl _ _⟩
  case round =>
    obtain ⟨k, r, S, hk, hr, rfl, rfl, rfl, hS, HS, kp⟩ := hrel
    by_cases hlt : k < n
    · obtain ⟨k1, hk1⟩ : ∃ k1 : Nat, (k : Int) + 1 = (k1 : Int) := ⟨k + 1, by omega⟩
      have wk1 := wrap_i64_nat k1 (by omega)
      have HK := hid (show k1 = k + 1 by omega)
      obtain ⟨d, hd⟩ : ∃ d : Nat, (r : Int).tdiv 5 = (d : Int) ∧ d < 1099511627776 := ⟨r / 5, by rw [Int.tdiv_eq_ediv_of_nonneg (by omega)]; omega, by omega⟩
      obtain ⟨hd1, hd2⟩ := hd
      have wd := wrap_i64_nat d (by omega)
      have hm : (r : Int).tmod 5 = (r : Int) % 5 := Int.tmod_eq_emod_of_nonneg (by omega)
      have hz1 : ¬ 9223372036854775807 < S.size + 1 := by omega
      rcases (show (r : Int) % 5 = 0 ∨ (r : Int) % 5 = 1 ∨ (r : Int) % 5 = 2 ∨ (r : Int) % 5 = 3 ∨ (r : Int) % 5 = 4 by omega) with h5 | h5 | h5 | h5 | h5
      · have hmm : (r : Int).tmod 5 = 0 := by rw [hm]; omega
        have ix : ((((⟨#[97, 97, 98, 98, 99]⟩ : ByteArray)[0]'(by decide)).toNat : Nat) : Int) = 97 := rfl
        have kc := conv_lit97 wr
        clear hm
        go_wp2_with fail
        refine ⟨⟨k1, d, _, by omega, hd2, rfl, rfl, rfl, ?_, hid ?_, kp.trans (Kp.alloc _ _ _)⟩, by simp [intOf]; omega⟩
        · rw [ByteArray.size_append, hS]; exact HK.out.symm
        · exact lett_snoc HS.out (by decide)
      · have hmm : (r : Int).tmod 5 = 1 := by rw [hm]; omega
        have ix : ((((⟨#[97, 97, 98, 98, 99]⟩ : ByteArray)[1]'(by decide)).toNat : Nat) : Int) = 97 := rfl
        have kc := conv_lit97 wr
        clear hm
        go_wp2_with fail
        refine ⟨⟨k1, d, _, by omega, hd2, rfl, rfl, rfl, ?_, hid ?_, kp.trans (Kp.alloc _ _ _)⟩, by simp [intOf]; omega⟩
        · rw [ByteArray.size_append, hS]; exact HK.out.symm
        · exact lett_snoc HS.out (by decide)
      · have hmm : (r : Int).tmod 5 = 2 := by rw [hm]; omega
        have ix : ((((⟨#[97, 97, 98, 98, 99]⟩ : ByteArray)[2]'(by decide)).toNat : Nat) : Int) = 98 := rfl
        have kc := conv_lit98 wr
        clear hm
        go_wp2_with fail
        refine ⟨⟨k1, d, _, by omega, hd2, rfl, rfl, rfl, ?_, hid ?_, kp.trans (Kp.alloc _ _ _)⟩, by simp [intOf]; omega⟩
        · rw [ByteArray.size_append, hS]; exact HK.out.symm
        · exact lett_snoc HS.out (by decide)
      · have hmm : (r : Int).tmod 5 = 3 := by rw [hm]; omega
        have ix : ((((⟨#[97, 97, 98, 98, 99]⟩ : ByteArray)[3]'(by decide)).toNat : Nat) : Int) = 98 := rfl
        have kc := conv_lit98 wr
        clear hm
        go_wp2_with fail
        refine ⟨⟨k1, d, _, by omega, hd2, rfl, rfl, rfl, ?_, hid ?_, kp.trans (Kp.alloc _ _ _)⟩, by simp [intOf]; omega⟩
        · rw [ByteArray.size_append, hS]; exact HK.out.symm
        · exact lett_snoc HS.out (by decide)
      · have hmm : (r : Int).tmod 5 = 4 := by rw [hm]; omega
        have ix : ((((⟨#[97, 97, 98, 98, 99]⟩ : ByteArray)[4]'(by decide)).toNat : Nat) : Int) = 99 := rfl
        have kc := conv_lit99 wr
        clear hm
        go_wp2_with fail
        refine ⟨⟨k1, d, _, by omega, hd2, rfl, rfl, rfl, ?_, hid ?_, kp.trans (Kp.alloc _ _ _)⟩, by simp [intOf]; omega⟩
        · rw [ByteArray.size_append, hS]; exact HK.out.symm
        · exact lett_snoc HS.out (by decide)
    · go_wp2_with fail
      go_ret
      obtain rfl : n = k := by omega
      exact ⟨S, rfl, HS.out, ⟨by omega, by omega⟩, kp⟩

end Go.Proofs.YtonnimbcekhbgaaGreatDoor

/- The law's helpers: lines, and the whole of them. -/
namespace Go.Proofs.YtonnimbcekhbgaaGreatDoor
open Go.RowKit

/-- A line of the law's. -/
def LineOk (l : List UInt8) : Prop := l.length ≤ 107 ∧ ∀ u ∈ l, u = 97 ∨ u = 98 ∨ u = 99 ∨ u = 32
theorem LineOk.no10 {l : List UInt8} (h : LineOk l) : (10 : UInt8) ∉ l := fun e => by
  have := h.2 10 e
  revert this; decide

/-- Lines in memory. -/
structure Lns (lo : Nat) (w : World) (v : Value) (ls : List (List UInt8)) : Prop where
  own : w.ownsRow lo 9 1 v ls.length (ls.map fun l => Value.string (ba l))
  ok : ∀ l ∈ ls, LineOk l
theorem Lns.keep {lo : Nat} {w w' : World} {v : Value} {ls : List (List UInt8)} (h : Lns lo w v ls) (k : Kp [] w w') : Lns lo w' v ls :=
  ⟨own_block h.own (fun p hp => k.block p (own_lt h.own hp).2 (by simp)), h.ok⟩
theorem Lns.form {lo : Nat} {w : World} {v : Value} {ls : List (List UInt8)} (h : Lns lo w v ls) : ∃ A c, v = .slice A ls.length c ∧ ∀ j l, ls[j]? = some l → ∃ g, A = some ⟨g, 0, none⟩ ∧ w.cell? ⟨g, j, none⟩ = some (.string (ba l)) := by
  rcases h.own.2 with ⟨e, e2⟩ | ⟨g, cap, cur, e, _⟩
  · refine ⟨none, 0, by rw [e, e2], fun j l hj => ?_⟩
    have := (List.getElem?_eq_some_iff.1 hj).1
    omega
  · refine ⟨some ⟨g, 0, none⟩, cap, e, fun j l hj => ⟨g, rfl, ?_⟩⟩
    have o := h.own
    rw [e] at o
    have hlt := (List.getElem?_eq_some_iff.1 hj).1
    rw [o.cellAt j (by omega), List.getElem?_map, hj]; rfl

theorem kp_grow {w w4 w5 : World} {v : Value} {n : Nat} {xs : List Value} {e : TypeId} (k : Kp [] w w4) (ow : w4.ownsRow w.heap.size e 1 v n xs) (hg : w4.grownBy w5 v.ownBlock) : Kp [] w w5 := by
  have kg := kp_of_grown (S := v.ownBlock.toList) hg (fun p hp => by rw [hp]; simp)
  have hge : ∀ x, x ∈ (Value.ownBlock v).toList → w.heap.size ≤ x := fun x hx => (own_lt ow (by simpa using hx)).1
  exact ⟨kg.os.trans k.os, kg.tape.trans k.tape, kg.output.trans k.output, Nat.le_trans k.size kg.size, fun q hq hn => (kg.block q (Nat.lt_of_lt_of_le hq k.size) (fun e => by have := hge q e; omega)).trans (k.block q hq hn)⟩

theorem Lns.push {w w3 w5 : World} {v : Value} {ls : List (List UInt8)} {g cap : Nat} {l : List UInt8} {o : Obj} (h : Lns w.heap.size w3 v ls) (ho : w5.ownsRow w.heap.size 9 1 (.slice (some ⟨g, 0, none⟩) (ls.length + 1) cap) (ls.length + 1) ((ls.map fun l => Value.string (ba l)) ++ [.string (ba l)])) (hl : LineOk l) (k : Kp [] w w3) (hg : (w3.alloc o).grownBy w5 v.ownBlock) :
    Lns w.heap.size w5 (.slice (some ⟨g, 0, none⟩) (ls.length + 1) cap) (ls ++ [l]) ∧ Kp [] w w5 := by
  refine ⟨⟨?_, fun x hx => ?_⟩, kp_grow (k.trans (Kp.alloc [] w3 o)) (h.keep (Kp.alloc [] w3 o)).own hg⟩
  · rw [List.length_append, List.map_append]; exact ho
  · rcases List.mem_append.1 hx with q | q
    · exact h.ok x q
    · rw [List.mem_singleton.1 q]; exact hl

theorem lineOk_app {a b : List UInt8} (ha : ∀ u ∈ a, u = 97 ∨ u = 98 ∨ u = 99 ∨ u = 32) (hb : ∀ u ∈ b, u = 97 ∨ u = 98 ∨ u = 99 ∨ u = 32) : ∀ u ∈ a ++ b, u = 97 ∨ u = 98 ∨ u = 99 ∨ u = 32 := fun u hu => by
  rcases List.mem_append.1 hu with q | q
  · exact ha u q
  · exact hb u q

set_option maxRecDepth 100000 in
set_option maxHeartbeats 4000000 in
theorem lines_any (A : Option Addr) (n c : Nat) (z : Nat → Int) (w : World) (hn : n < 9223372036854775808) (hz : NumsIn w A n z) :
    Calls Tryz.prog 8 #[.slice A n c] w fun e w' => ∃ v ls, e = .returned v ∧ Lns w.heap.size w' v ls ∧ 1 ≤ ls.length ∧ ls.length ≤ 13 ∧ Kp [] w w' := by
  obtain ⟨i0, hi, hz0, hz1, hz2⟩ := info_parts Tryz.infoStr
  have HI := hid (And.intro hi (And.intro hz0 (And.intro hz1 hz2)))
  have HZ := hid hz
  clear hi hz0 hz1 hz2 hz
  go_enter Tryz.func8, Tryz.ntmps8
  go_wp2_with fail
  go_loopw [3, 4, 5] (fun l s i wr => ∃ (k : Nat) (S : List UInt8) (ls : List (List UInt8)), k ≤ n ∧ i = .int .i64 k ∧ s = .string (ba S) ∧ S.length ≤ 101 ∧ ls.length ≤ 12 ∧ Hid (∀ u ∈ S, u = 97 ∨ u = 98 ∨ u = 99 ∨ u = 32) ∧ Hid (Lns w.heap.size wr l ls) ∧ Kp [] w wr) (fun _ _ i _ => n - (intOf i).toNat)
  case atStart => exact ⟨0, [], [], by omega, rfl, rfl, by simp, by simp, hid (fun u hu => by cases hu), hid ⟨World.ownsRow_nil _ _ _ _, fun l hl => by cases hl⟩, Kp.refl _ _⟩
  case round =>
    obtain ⟨k, S, ls, hk, rfl, rfl, hS, hls, HS, HL, kp⟩ := hrel
    obtain ⟨A', c', ev, hcell⟩ := HL.out.form
    subst ev
    by_cases hkn : k < n
    · by_cases hl12 : ls.length < 12
      · obtain ⟨ad, rfl, hc⟩ := (HZ.out.keep kp).at_ k hkn
        have hb := HZ.out.bd k hkn
        obtain ⟨x, hx⟩ : ∃ x, x = z k := ⟨_, rfl⟩
        rw [← hx] at hc hb
        clear hx
        obtain ⟨k1, hk1⟩ : ∃ k1 : Nat, (k : Int) + 1 = (k1 : Int) := ⟨k + 1, by omega⟩
        have wk := wrap_i64_nat k1 (by omega)
        obtain ⟨t, ht⟩ : ∃ t, x.tmod 3 = t := ⟨_, rfl⟩
        go_wp2_with fail
        refine (word_any x 6 hb.1 hb.2 (by omega) (by omega) _).mono ?_
        rintro e w2 ⟨W, rfl, hW, ⟨hW6, _⟩, k2⟩
        obtain ⟨Wl, rfl⟩ : ∃ Wl, W = ba Wl := ⟨W.data.toList, (ba_of W).symm⟩
        rw [ba_list] at hW
        rw [ba_size] at hW6
        obtain ⟨T, hT⟩ : ∃ T, T = S ++ Wl := ⟨_, rfl⟩
        have happ : ba S ++ ba Wl = ba T := by rw [ba_app, hT]
        have hsz : ¬ 9223372036854775807 < (ba S).size + (ba Wl).size := by rw [ba_size, ba_size]; omega
        have hTl : T.length ≤ 107 := by rw [hT, List.length_append]; omega
        have HTU : Hid (∀ u ∈ T, u = 97 ∨ u = 98 ∨ u = 99 ∨ u = 32) := hid (by
          rw [hT]
          exact lineOk_app HS.out (fun u hu => by rcases hW u hu with q | q | q <;> simp [q]))
        have HLO : Hid (LineOk T) := hid ⟨hTl, HTU.out⟩
        have L2 := hid (HL.out.keep k2)
        have K2 := hid (kp.trans k2)
        have hc2 : w2.cell? (ad.add k) = some (.int .i64 x) := (k2.cell (World.block_lt_of_cell? _ _ hc) (by simp)).trans hc
        have OWN : Hid ((w2.alloc (.cells #[.string (ba T)] 9)).ownsRow w.heap.size 9 1 (.slice A' ls.length c') ls.length (ls.map fun l => Value.string (ba l))) := hid (L2.out.keep (Kp.alloc [] w2 _)).own
        have HSZ : Hid (w.heap.size ≤ (w2.alloc (.cells #[.string (ba T)] 9)).heap.size) := hid (Nat.le_trans K2.out.size (Kp.alloc [] w2 _).size)
        have hts : (ba T).size = T.length := ba_size T
        clear hT hW hcell kp k2 hc HS HL
        cases hq : (t == 0)
        · by_cases h100 : 100 < T.length
          · go_wp2_with (at_builtin; refine wpList_app rfl _ _ 23 rfl w.heap.size 9 i0 (.string ⟨#[]⟩) 1 16 Tryz.underlying23 HI.out.1 HI.out.2.1 HI.out.2.2.1 HI.out.2.2.2 rfl (by decide) (.slice A' ls.length c') ls.length (ls.map fun l => Value.string (ba l)) rfl OWN.out ⟨w2.heap.size, 0, none⟩ 1 1 [.string (ba T)] rfl rfl (fun j u hu => by rw [Addr.add_mid, Nat.zero_add]; exact (Bl.alloc w2 [.string (ba T)] 9).at_ j u hu) (fun u hu => by simp at hu; subst hu; rfl) (by unfold maxLen; omega) (by omega) HSZ.out (by omega) ?_; intro g cap w5 ho hg hor)
            obtain ⟨L5, K5⟩ := L2.out.push ho HLO.out K2.out hg
            go_round
            case rel => exact ⟨k1, [], ls ++ [T], by omega, rfl, rfl, by simp, by simp; omega, hid (fun u hu => by cases hu), hid L5, K5⟩
            case measure => simp [intOf]; omega
          · have hs2 : ¬ 9223372036854775807 < T.length + 1 := by omega
            go_wp2_with fail
            go_round
            case rel => exact ⟨k1, T ++ [32], ls, by omega, rfl, by rw [show (⟨#[32]⟩ : ByteArray) = ba [32] from rfl, ba_app], by simp; omega, by omega, hid (lineOk_app HTU.out (fun u hu => by simp at hu; simp [hu])), L2, K2.out⟩
            case measure => simp [intOf]; omega
        · go_wp2_with (at_builtin; refine wpList_app rfl _ _ 23 rfl w.heap.size 9 i0 (.string ⟨#[]⟩) 1 16 Tryz.underlying23 HI.out.1 HI.out.2.1 HI.out.2.2.1 HI.out.2.2.2 rfl (by decide) (.slice A' ls.length c') ls.length (ls.map fun l => Value.string (ba l)) rfl OWN.out ⟨w2.heap.size, 0, none⟩ 1 1 [.string (ba T)] rfl rfl (fun j u hu => by rw [Addr.add_mid, Nat.zero_add]; exact (Bl.alloc w2 [.string (ba T)] 9).at_ j u hu) (fun u hu => by simp at hu; subst hu; rfl) (by unfold maxLen; omega) (by omega) HSZ.out (by omega) ?_; intro g cap w5 ho hg hor)
          obtain ⟨L5, K5⟩ := L2.out.push ho HLO.out K2.out hg
          go_round
          case rel => exact ⟨k1, [], ls ++ [T], by omega, rfl, rfl, by simp, by simp; omega, hid (fun u hu => by cases hu), hid L5, K5⟩
          case measure => simp [intOf]; omega
      · have OWN : Hid ((wr.alloc (.cells #[.string (ba S)] 9)).ownsRow w.heap.size 9 1 (.slice A' ls.length c') ls.length (ls.map fun l => Value.string (ba l))) := hid (HL.out.keep (Kp.alloc [] wr _)).own
        have HSZ : Hid (w.heap.size ≤ (wr.alloc (.cells #[.string (ba S)] 9)).heap.size) := hid (Nat.le_trans kp.size (Kp.alloc [] wr _).size)
        have KP := hid kp
        clear hcell kp
        go_wp2_with (at_builtin; refine wpList_app rfl _ _ 23 rfl w.heap.size 9 i0 (.string ⟨#[]⟩) 1 16 Tryz.underlying23 HI.out.1 HI.out.2.1 HI.out.2.2.1 HI.out.2.2.2 rfl (by decide) (.slice A' ls.length c') ls.length (ls.map fun l => Value.string (ba l)) rfl OWN.out ⟨wr.heap.size, 0, none⟩ 1 1 [.string (ba S)] rfl rfl (fun j u hu => by rw [Addr.add_mid, Nat.zero_add]; exact (Bl.alloc wr [.string (ba S)] 9).at_ j u hu) (fun u hu => by simp at hu; subst hu; rfl) (by unfold maxLen; omega) (by omega) HSZ.out (by omega) ?_; intro g cap w5 ho hg hor)
        go_ret
        obtain ⟨L5, K5⟩ := HL.out.push ho ⟨by omega, HS.out⟩ KP.out hg
        exact ⟨_, ls ++ [S], rfl, L5, by simp, by simp; omega, K5⟩
    · have OWN : Hid ((wr.alloc (.cells #[.string (ba S)] 9)).ownsRow w.heap.size 9 1 (.slice A' ls.length c') ls.length (ls.map fun l => Value.string (ba l))) := hid (HL.out.keep (Kp.alloc [] wr _)).own
      have HSZ : Hid (w.heap.size ≤ (wr.alloc (.cells #[.string (ba S)] 9)).heap.size) := hid (Nat.le_trans kp.size (Kp.alloc [] wr _).size)
      have KP := hid kp
      clear hcell kp
      go_wp2_with (at_builtin; refine wpList_app rfl _ _ 23 rfl w.heap.size 9 i0 (.string ⟨#[]⟩) 1 16 Tryz.underlying23 HI.out.1 HI.out.2.1 HI.out.2.2.1 HI.out.2.2.2 rfl (by decide) (.slice A' ls.length c') ls.length (ls.map fun l => Value.string (ba l)) rfl OWN.out ⟨wr.heap.size, 0, none⟩ 1 1 [.string (ba S)] rfl rfl (fun j u hu => by rw [Addr.add_mid, Nat.zero_add]; exact (Bl.alloc wr [.string (ba S)] 9).at_ j u hu) (fun u hu => by simp at hu; subst hu; rfl) (by unfold maxLen; omega) (by omega) HSZ.out (by omega) ?_; intro g cap w5 ho hg hor)
      go_ret
      obtain ⟨L5, K5⟩ := HL.out.push ho ⟨by omega, HS.out⟩ KP.out hg
      exact ⟨_, ls ++ [S], rfl, L5, by simp, by simp; omega, K5⟩

/-- The whole of some lines. -/
theorem wh_size (ls : List (List UInt8)) (h : ∀ l ∈ ls, LineOk l) : (wh ls).length ≤ 108 * ls.length := by
  induction ls with
  | nil => simp [wh]
  | cons l ls ih =>
    have h1 := (h l (by simp)).1
    have h2 := ih (fun l hl => h l (by simp [hl]))
    rw [show wh (l :: ls) = (l ++ [10]) ++ wh ls by simp [wh], List.length_append, List.length_append]
    simp; omega

set_option maxRecDepth 100000 in
set_option maxHeartbeats 2000000 in
theorem whole_any {lo : Nat} {w : World} {v : Value} {ls : List (List UInt8)} (h : Lns lo w v ls) (hn : ls.length ≤ 100) :
    Calls Tryz.prog 9 #[v] w fun e w' => e = .returned (.string (ba (wh ls))) ∧ w' = w := by
  obtain ⟨A, c, ev, hcell⟩ := h.form
  subst ev
  have HC := hid hcell
  have HH := hid h
  clear hcell h
  go_enter Tryz.func9, Tryz.ntmps9
  go_wp2_with fail
  go_loopw [3, 4] (fun s i wr => ∃ k : Nat, k ≤ ls.length ∧ i = .int .i64 k ∧ s = .string (ba (wh (ls.take k))) ∧ wr = w) (fun _ i _ => ls.length - (intOf i).toNat)
  case atStart => exact ⟨0, by omega, rfl, rfl, rfl⟩
  case round =>
    obtain ⟨k, hk, rfl, rfl, rfl⟩ := hrel
    by_cases hkn : k < ls.length
    · obtain ⟨l, hl⟩ : ∃ l, ls[k]? = some l := ⟨_, List.getElem?_eq_getElem hkn⟩
      obtain ⟨g, rfl, hc⟩ := HC.out k l hl
      obtain ⟨k1, hk1⟩ : ∃ k1 : Nat, (k : Int) + 1 = (k1 : Int) := ⟨k + 1, by omega⟩
      have wk := wrap_i64_nat k1 (by omega)
      obtain ⟨S, hS⟩ : ∃ S, S = wh (ls.take k) := ⟨_, rfl⟩
      have hSl : S.length ≤ 10800 := by
        rw [hS]
        have := wh_size (ls.take k) (fun l hl => HH.out.ok l (List.mem_of_mem_take hl))
        rw [List.length_take] at this
        omega
      have hll := (HH.out.ok l (List.mem_of_getElem? hl)).1
      have ap1 : ba S ++ ba l = ba (S ++ l) := ba_app _ _
      have z1 : ¬ 9223372036854775807 < S.length + l.length := by omega
      have zs := ba_size S
      have zl := ba_size l
      have zsl : (ba (S ++ l)).size = S.length + l.length := by rw [ba_size, List.length_append]
      have z2 : ¬ 9223372036854775807 < S.length + l.length + 1 := by omega
      rw [← hS]
      have HL := hid hl
      have HS := hid hS
      clear hl hS
      go_wp2_with fail
      go_round
      case rel =>
        refine ⟨k1, by omega, rfl, ?_, by trivial⟩
        have e : k1 = k + 1 := by omega
        rw [e, List.take_add_one, HL.out, Option.toList_some, show wh (ls.take k ++ [l]) = wh (ls.take k) ++ (l ++ [10]) by simp [wh], ← HS.out, show (⟨#[10]⟩ : ByteArray) = ba [10] from rfl, ba_app, List.append_assoc]
      case measure => simp [intOf]; omega
    · have e : k = ls.length := by omega
      subst e
      go_wp2_with fail
      go_ret
      exact ⟨by rw [List.take_length]; rfl, rfl⟩
end Go.Proofs.YtonnimbcekhbgaaGreatDoor

/- Where a text stands first in another one. -/
namespace Go.Proofs.YtonnimbcekhbgaaGreatDoor
open Go.RowKit

/-- A text stands in another one at a place. -/
def standsB (s w : ByteArray) (i : Nat) : Bool := decide (i + w.size ≤ s.size) && ((s.extract i (i + w.size)).toList == w.toList)

end Go.Proofs.YtonnimbcekhbgaaGreatDoor

/- FQ. -/
namespace Go.Proofs.YtonnimbcekhbgaaGreatDoor
open Go.RowKit

section
variable {σ : Sst} {ls : List (List UInt8)}

/-- The law's lines. -/
structure Lok (ls : List (List UInt8)) : Prop where
  ok : ∀ l ∈ ls, LineOk l
  len : ls.length ≤ 13
theorem Lok.line (h : Lok ls) : ∀ l ∈ ls, (10 : UInt8) ∉ l ∧ l.length ≤ 1000 := fun l hl => ⟨(h.ok l hl).no10, by have := (h.ok l hl).1; omega⟩
theorem Lok.size (h : Lok ls) : (wh ls).length ≤ 1404 := by have := wh_size ls h.ok; have := h.len; omega
end
end Go.Proofs.YtonnimbcekhbgaaGreatDoor

/- KC. -/
namespace Go.Proofs.YtonnimbcekhbgaaGreatDoor
open Go.RowKit

section
variable {w0 w w' w2 : World} {mb sb db lo hi : Nat} {s s' : Mst} {σ : Sst}

/-- A command with two addresses. -/
structure Two (w : World) (ca co ap i kd n2 : Nat) : Prop where
  c0 : ∃ cap, w.cell? ⟨ca, co, none⟩ = some (.slice (some ⟨ap, 0, none⟩) 2 cap)
  c1 : w.cell? ⟨ca, co + 1, none⟩ = some (.int .i64 i)
  a4 : w.cell? ⟨ap, 4, none⟩ = some (.int .i64 kd)
  a5 : w.cell? ⟨ap, 5, none⟩ = some (.int .i64 n2)
theorem Two.keep {ca co ap i kd n2 : Nat} (h : Two w ca co ap i kd n2) (k : Kp [] w w') : Two w' ca co ap i kd n2 := by
  obtain ⟨cap, h0⟩ := h.c0
  exact ⟨⟨cap, (k.cell (World.block_lt_of_cell? _ _ h0) (by simp)).trans h0⟩, (k.cell (World.block_lt_of_cell? _ _ h.c1) (by simp)).trans h.c1, (k.cell (World.block_lt_of_cell? _ _ h.a4) (by simp)).trans h.a4, (k.cell (World.block_lt_of_cell? _ _ h.a5) (by simp)).trans h.a5⟩
end
end Go.Proofs.YtonnimbcekhbgaaGreatDoor
