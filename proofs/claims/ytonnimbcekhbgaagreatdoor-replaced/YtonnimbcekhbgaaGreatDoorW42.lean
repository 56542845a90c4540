/- What the claim needs of: NA. -/
import Derived.Test.YtonnimbcekhbgaaGreatDoorW41

/- NA. -/
namespace Go.Proofs.YtonnimbcekhbgaaGreatDoor
open Go.RowKit

/-- What a node writes behind n instructions, such that it goes on at next, at a depth: its instructions, and where it begins. -/
abbrev Em := Nat → Nat → Nat → List In × Nat

/-- A node: its value; its size; how many instructions it has, how deep its turns lie, and which they are. -/
structure It where
  tv : TypeId
  xv : Value
  sz : Nat
  len : Nat
  dd : Nat
  em : Em
def It.v (i : It) : Value := .iface i.tv i.xv

abbrev noIn (kind nx ot sl dp : Nat) : In := ⟨kind, nx, ot, sl, dp, noBytes⟩
/-- An instruction's cells. -/
def insI (i : In) : List Value := ins i.kind i.nx i.ot i.sl i.dp i.m
def flatI (l : List In) : List Value := l.flatMap insI
theorem insI_len (i : In) : (insI i).length = 9 := rfl
theorem flatI_len (l : List In) : (flatI l).length = l.length * 9 := by
  induction l with
  | nil => rfl
  | cons i l ih =>
    show (insI i ++ flatI l).length = (l.length + 1) * 9
    rw [List.length_append, ih, insI_len]; omega
theorem flatI_append (l m : List In) : flatI (l ++ m) = flatI l ++ flatI m := by simp [flatI]
theorem flatI_one (i : In) : flatI [i] = insI i := by simp [flatI]
def emOne (m : Nat → Bool) : Em := fun n next d => ([⟨0, next, 0, 0, d, m⟩], n)
def emGroup (g len : Nat) (em : Em) : Em := fun n next d => (noIn 3 next 0 (2 * g + 1) 0 :: ((em (n + 1) n d).1 ++ [noIn 3 (em (n + 1) n d).2 0 (2 * g) 0]), n + 1 + len)
/-- A row, the last piece first. -/
def emRow : List It → Em
  | [], _, next, _ => ([], next)
  | p :: ps, n, next, d => ((p.em n next d).1 ++ (emRow ps (n + p.len) (p.em n next d).2 d).1, (emRow ps (n + p.len) (p.em n next d).2 d).2)
/-- Branches ahead of others that begin at a place, the last of them first. -/
def emMoreB : List It → Nat → Em
  | [], b, _, _, _ => ([], b)
  | p :: ps, b, n, next, d => ((p.em n next d).1 ++ (noIn 4 (p.em n next d).2 b 0 0 :: (emMoreB ps (n + p.len) (n + p.len + 1) next d).1), (emMoreB ps (n + p.len) (n + p.len + 1) next d).2)
/-- Branches, the last one first. -/
def emBranches : List It → Em
  | [], _, next, _ => ([], next)
  | p :: ps, n, next, d => ((p.em n next d).1 ++ (emMoreB ps (p.em n next d).2 (n + p.len) next d).1, (emMoreB ps (p.em n next d).2 (n + p.len) next d).2)
def lenL (l : List It) : Nat := (l.map It.len).sum
def szL (l : List It) : Nat := (l.map It.sz).sum
def ddL : List It → Nat
  | [] => 0
  | p :: ps => max p.dd (ddL ps)

def oneIt (m : Nat → Bool) : It := ⟨225, setV m, 1, 1, 0, emOne m⟩
def groupIt (g : Nat) (i : It) : It := ⟨229, .agg #[.int .i64 g, i.v], min (i.sz + 2) 301, i.len + 2, i.dd, emGroup g i.len i.em⟩
def rowIt (v : Value) (l : List It) : It := ⟨211, v, min (szL l) 301, lenL l, ddL l, emRow l.reverse⟩
def branchesIt (v : Value) (l : List It) : It := ⟨207, v, min (szL l + (l.length - 1)) 301, lenL l + (l.length - 1), ddL l, emBranches l.reverse⟩
/-- The blocks from lo to hi are as they were. -/
def Same (lo hi : Nat) (w0 w : World) : Prop := hi ≤ w.heap.size ∧ ∀ k, lo ≤ k → k < hi → w.heap[k]? = w0.heap[k]?
/-- How deep a node's turns lie, at a depth. -/
def up (d dd : Nat) : Nat := if dd = 0 then 0 else d + dd

/-- The node does as it is said to, while the blocks from lo to hi are as they are. -/
structure Nd (lo hi : Nat) (w0 : World) (i : It) : Prop where
  sized : ∃ fs, (∀ w, (method 348 i.tv i.xv "ribbon/pattern.size").run Tryz.prog w = .ok (fs, i.xv) w) ∧ (∀ v w, (callFunc fs #[v]).run Tryz.prog w = .ok (.enter fs #[v]) w) ∧ ∀ w, Same lo hi w0 w → Calls Tryz.prog fs #[i.xv] w fun e w' => e = .returned (.int .i64 i.sz) ∧ Kp [] w w'
  emits : ∃ fe, (∀ w, (method 348 i.tv i.xv "ribbon/pattern.emit").run Tryz.prog w = .ok (fe, i.xv) w) ∧ (∀ v p q w, (callFunc fe #[v, p, q]).run Tryz.prog w = .ok (.enter fe #[v, p, q]) w) ∧ ∀ (w : World) (L n : Nat) (xs : List In) (d dp next : Nat), Same lo hi w0 w → hi ≤ L → n + i.len ≤ 1000 → d + i.len ≤ 2000 → dp ≤ 10000 → Ls w L n (flatI xs) d dp →
    Calls Tryz.prog fe #[i.xv, .pointer (some ⟨L, 0, none⟩), .int .i64 next] w fun e w' => e = .returned (.int .i64 (i.em n next d).2) ∧ Ls w' L (n + i.len) (flatI (xs ++ (i.em n next d).1)) d (max dp (up d i.dd)) ∧ Below L w w' ∧ Spares L w w'
  lens : ∀ n next d, (i.em n next d).1.length = i.len
  sz : i.sz ≤ 301
  ddl : i.dd ≤ i.len

theorem Same.refl (lo : Nat) {hi : Nat} {w : World} (h : hi ≤ w.heap.size) : Same lo hi w w := ⟨h, fun _ _ _ => rfl⟩
theorem Same.kp {lo hi : Nat} {w0 w w' : World} (h : Same lo hi w0 w) (k : Kp [] w w') : Same lo hi w0 w' :=
  ⟨Nat.le_trans h.1 k.size, fun q h1 h2 => (k.block q (Nat.lt_of_lt_of_le h2 h.1) (by simp)).trans (h.2 q h1 h2)⟩
theorem Same.below {lo hi L : Nat} {w0 w w' : World} (h : Same lo hi w0 w) (k : Below L w w') (hL : hi ≤ L) : Same lo hi w0 w' :=
  ⟨Nat.le_trans h.1 k.size, fun q h1 h2 => (k.block q (Nat.lt_of_lt_of_le h2 hL)).trans (h.2 q h1 h2)⟩
theorem Same.cell {lo hi : Nat} {w0 w : World} (h : Same lo hi w0 w) {a : Addr} {v : Value} (hv : w0.cell? a = some v) (hb : lo ≤ a.block ∧ a.block < hi) : w.cell? a = some v :=
  (World.cell?_of_block (w := w0) (h.2 a.block hb.1 hb.2)).trans hv
theorem Nd.keep {lo hi : Nat} {w0 w1 : World} {i : It} (h : Nd lo hi w0 i) (k : ∀ q, lo ≤ q → q < hi → w1.heap[q]? = w0.heap[q]?) : Nd lo hi w1 i := by
  have hs : ∀ w, Same lo hi w1 w → Same lo hi w0 w := fun w s => ⟨s.1, fun q h1 h2 => (s.2 q h1 h2).trans (k q h1 h2)⟩
  obtain ⟨fs, a1, a2, a3⟩ := h.sized
  obtain ⟨fe, b1, b2, b3⟩ := h.emits
  exact ⟨⟨fs, a1, a2, fun w s => a3 w (hs w s)⟩, ⟨fe, b1, b2, fun w L n xs d dp next s hL => b3 w L n xs d dp next (hs w s) hL⟩, h.lens, h.sz, h.ddl⟩
theorem Nd.wide {lo hi lo' hi' : Nat} {w0 : World} {i : It} (h : Nd lo hi w0 i) (h1 : lo' ≤ lo) (h2 : hi ≤ hi') : Nd lo' hi' w0 i := by
  have hs : ∀ w, Same lo' hi' w0 w → Same lo hi w0 w := fun w s => ⟨Nat.le_trans h2 s.1, fun q q1 q2 => s.2 q (Nat.le_trans h1 q1) (Nat.lt_of_lt_of_le q2 h2)⟩
  obtain ⟨fs, a1, a2, a3⟩ := h.sized
  obtain ⟨fe, b1, b2, b3⟩ := h.emits
  exact ⟨⟨fs, a1, a2, fun w s => a3 w (hs w s)⟩, ⟨fe, b1, b2, fun w L n xs d dp next s hL => b3 w L n xs d dp next (hs w s) (Nat.le_trans h2 hL)⟩, h.lens, h.sz, h.ddl⟩

theorem ret_int {a b : Int} (h : a = b) : Ending.returned (.int .i64 a) = .returned (.int .i64 b) := by rw [h]
/-- The box of a method's value is none of the list's. -/
theorem box_safe {w : World} {L n : Nat} {xs : List Value} {d dp : Nat} (h : Ls w L n xs d dp) (o : Obj) : SafeT L w.heap.size (w.alloc o) := by
  have hl := h.lt
  have k0 := Kp.alloc [] w o
  refine ⟨by simp, by omega, fun v hv q => ?_⟩
  obtain ⟨v', h1, h2, _⟩ := h.code
  have e : v = v' := Option.some.inj (hv.symm.trans ((k0.cell (p := ⟨L, 0, none⟩) hl (by simp)).trans h1))
  subst e
  have := (h2.lt _ q).2
  omega
theorem up_le (d x : Nat) : up d x ≤ d + x := by unfold up; split <;> omega
theorem up_zero (d dp : Nat) : max dp (up d 0) = dp := by unfold up; simp
theorem up_max (d dp a b : Nat) : max (max dp (up d a)) (up d b) = max dp (up d (max a b)) := by
  unfold up
  split <;> split <;> split <;> omega

/-- An instruction more. -/
theorem addI {L n : Nat} {xs : List In} {d dp : Nat} {w : World} (h : Ls w L n (flatI xs) d dp) (hn : n ≤ 100000) (i : In) :
    Calls Tryz.prog 144 #[.pointer (some ⟨L, 0, none⟩), .agg (insI i).toArray] w fun e w' => e = .returned (.int .i64 n) ∧ Ls w' L (n + 1) (flatI (xs ++ [i])) d dp ∧ Below L w w' ∧ Spares L w w' := by
  rw [flatI_append, flatI_one]
  exact listAddS h hn i.kind i.nx i.ot i.sl i.dp i.m
/-- .. of no bytes. -/
theorem addI0 {L n : Nat} {xs : List In} {d dp : Nat} {w : World} (h : Ls w L n (flatI xs) d dp) (hn : n ≤ 100000) (kind nx ot sl depth : Nat) :
    Calls Tryz.prog 144 #[.pointer (some ⟨L, 0, none⟩), .agg (ins0 kind nx ot sl depth).toArray] w fun e w' => e = .returned (.int .i64 n) ∧ Ls w' L (n + 1) (flatI (xs ++ [noIn kind nx ot sl depth])) d dp ∧ Below L w w' ∧ Spares L w w' := by
  have := addI h hn (noIn kind nx ot sl depth)
  unfold insI at this
  rw [ins0_eq] at this
  exact this

theorem nd_one (lo hi : Nat) (w0 : World) (m : Nat → Bool) : Nd lo hi w0 (oneIt m) :=
  ⟨⟨_, size_of_one _, (fun _ _ => by kernel_rfl), fun w _ => one_size m w⟩, ⟨_, emit_of_one _, (fun _ _ _ _ => by kernel_rfl), fun w L n xs d dp next _ _ hn _ _ h => by
    show Calls _ _ _ _ fun e w' => _ ∧ Ls w' L (n + 1) (flatI (xs ++ [(⟨0, next, 0, 0, d, m⟩ : In)])) d (max dp (up d 0)) ∧ _ ∧ _
    rw [up_zero, flatI_append, flatI_one]
    exact one_emitS h (by have : n + 1 ≤ 1000 := hn; omega) next m⟩, fun _ _ _ => rfl, by show (1 : Nat) ≤ 301; omega, Nat.zero_le _⟩

end Go.Proofs.YtonnimbcekhbgaaGreatDoor

/- Nodes: a row of them. -/
namespace Go.Proofs.YtonnimbcekhbgaaGreatDoor
open Go.RowKit

theorem szL_le {lo hi : Nat} {w0 : World} : ∀ l : List It, (∀ i ∈ l, Nd lo hi w0 i) → szL l ≤ l.length * 301
  | [], _ => Nat.le_refl _
  | p :: l, h => by
    have h1 := (h p (by simp)).sz
    have h2 := szL_le l (fun i hi => h i (by simp [hi]))
    show p.sz + szL l ≤ (l.length + 1) * 301
    omega
theorem ddL_le {lo hi : Nat} {w0 : World} : ∀ l : List It, (∀ i ∈ l, Nd lo hi w0 i) → ddL l ≤ lenL l
  | [], _ => Nat.le_refl _
  | p :: l, h => by
    have h1 := (h p (by simp)).ddl
    have h2 := ddL_le l (fun i hi => h i (by simp [hi]))
    show max p.dd (ddL l) ≤ p.len + lenL l
    omega
theorem szL_take (l : List It) (k : Nat) (p : It) (h : l[k]? = some p) : szL (l.take (k + 1)) = szL (l.take k) + p.sz := by
  unfold szL
  rw [List.take_add_one, h]
  simp
theorem lens_row {lo hi : Nat} {w0 : World} : ∀ (l : List It), (∀ i ∈ l, Nd lo hi w0 i) → ∀ n next d, (emRow l n next d).1.length = lenL l
  | [], _, _, _, _ => rfl
  | p :: l, h, n, next, d => by
    show ((p.em n next d).1 ++ _).length = p.len + lenL l
    rw [List.length_append, (h p (by simp)).lens, lens_row l (fun i hi => h i (by simp [hi]))]
theorem lenL_append (l m : List It) : lenL (l ++ m) = lenL l + lenL m := by simp [lenL]
theorem lenL_reverse (l : List It) : lenL l.reverse = lenL l := by simp [lenL]
theorem ddL_append : ∀ l m : List It, ddL (l ++ m) = max (ddL l) (ddL m)
  | [], m => by show ddL m = max 0 (ddL m); omega
  | p :: l, m => by
    show max p.dd (ddL (l ++ m)) = max (max p.dd (ddL l)) (ddL m)
    rw [ddL_append l m]; omega

set_option maxRecDepth 100000 in
set_option maxHeartbeats 1000000 in
theorem row_sizeN {lo hi B : Nat} {w0 w : World} {its : List It} {v : Value} (own : w0.ownsRow B 173 1 v its.length (its.map It.v)) (hb : ∀ r, v.ownBlock = some r → lo ≤ r ∧ r < hi) (h : ∀ i ∈ its, Nd lo hi w0 i) (hlen : its.length ≤ 200) (hs : Same lo hi w0 w) :
    Calls Tryz.prog 206 #[v] w fun e w' => e = .returned (.int .i64 ((min (szL its) 301 : Nat) : Int)) ∧ Kp [] w w' := by
  have OWN := hid own
  have HS := hid hs
  have HN := hid h
  obtain ⟨n, hn⟩ : ∃ n, its.length = n := ⟨_, rfl⟩
  have hsl : ∃ ao c, v = .slice ao n c := by
    rcases own_formP own with ⟨q, q2⟩ | ⟨g, c, q⟩
    · exact ⟨none, 0, by rw [q, ← hn, q2]⟩
    · exact ⟨_, c, by rw [q, hn]⟩
  obtain ⟨ao, c, rfl⟩ := hsl
  have hall := szL_le its h
  rw [hn] at hlen hall
  have HNN := hid hn
  clear own hs h hn
  go_enter Tryz.func206, Tryz.ntmps206
  go_wp2_with fail
  go_loopw [3, 8] (fun s i wr => ∃ k z : Nat, k ≤ n ∧ z = szL (its.take k) ∧ z ≤ k * 301 ∧ s = .int .i64 z ∧ i = .int .i64 k ∧ Kp [] w wr) (fun _ i _ => n - (intOf i).toNat)
  case atStart => exact ⟨0, 0, by omega, by simp [szL], by omega, rfl, rfl, Kp.refl _ _⟩
  case round =>
    obtain ⟨k, z, hk, hz, hzk, rfl, rfl, kr⟩ := hrel
    have HZ := hid hz
    clear hz
    by_cases hlt : k < n
    · obtain ⟨p, hp⟩ : ∃ p, its[k]? = some p := ⟨its[k]'(by have := HNN.out; omega), List.getElem?_eq_getElem (by have := HNN.out; omega)⟩
      have hpm : p ∈ its := List.mem_of_getElem? hp
      obtain ⟨fs, m1, m2, cs⟩ := (HN.out p hpm).sized
      have psz := (HN.out p hpm).sz
      rcases own_formP OWN.out with ⟨_, q⟩ | ⟨r, c', q⟩
      · have := HNN.out; omega
      · simp only [Value.slice.injEq] at q
        obtain ⟨rfl, hx, rfl⟩ := q
        have o := OWN.out
        rw [hx] at o
        have hc := row_at o k p.v (by rw [List.getElem?_map, hp]; rfl)
        rw [Nat.zero_add] at hc
        have hrb : lo ≤ r ∧ r < hi := hb r rfl
        have hc2 : wr.cell? ⟨r, k, none⟩ = some (.iface p.tv p.xv) := (kr.cell (p := ⟨r, k, none⟩) (World.block_lt_of_cell? _ _ (HS.out.cell hc hrb)) (by simp)).trans (HS.out.cell hc hrb)
        have C := hid (cs wr (HS.out.kp kr))
        have HP := hid hp
        clear hc o hx hp cs hrb
        go_wp2_with fail
        refine C.out.mono ?_
        rintro e w1 ⟨rfl, k1⟩
        obtain ⟨z1, hz1⟩ : ∃ z1 : Nat, z1 = z + p.sz := ⟨_, rfl⟩
        have hsum : (z : Int) + (p.sz : Int) = (z1 : Int) := by omega
        have wsum := wrap_i64_nat z1 (by omega)
        have HZ1 := hid hz1
        have hz1k : z1 ≤ (k + 1) * 301 := by omega
        clear hz1
        go_wp2_with fail
        exact ⟨⟨k + 1, z1, by omega, by rw [szL_take its k p HP.out, HZ1.out, HZ.out], hz1k, rfl, by go_num, kr.trans k1⟩, by simp [intOf]; omega⟩
    · have hkn : k = n := by omega
      subst hkn
      have hmin : min (z : Int) 301 = ((min z 301 : Nat) : Int) := by omega
      go_wp2_with fail
      all_goals go_ret
      all_goals
        refine ⟨ret_int ?_, kr⟩
        have e1 := HZ.out
        rw [List.take_of_length_le (by have := HNN.out; omega)] at e1
        rw [← e1]
        try omega

set_option maxRecDepth 100000 in
set_option maxHeartbeats 1000000 in
theorem row_emitN {lo hi B L n d dp next : Nat} {xs : List In} {w0 w : World} {its : List It} {v : Value} (own : w0.ownsRow B 173 1 v its.length (its.map It.v)) (hb : ∀ r, v.ownBlock = some r → lo ≤ r ∧ r < hi) (h : ∀ i ∈ its, Nd lo hi w0 i) (hlen : its.length ≤ 200) (hs : Same lo hi w0 w) (hL : hi ≤ L) (hn : n + lenL its ≤ 1000) (hd : d + lenL its ≤ 2000) (hdp : dp ≤ 10000) (hls : Ls w L n (flatI xs) d dp) :
    Calls Tryz.prog 205 #[v, .pointer (some ⟨L, 0, none⟩), .int .i64 next] w fun e w' => e = .returned (.int .i64 (emRow its.reverse n next d).2) ∧ Ls w' L (n + lenL its) (flatI (xs ++ (emRow its.reverse n next d).1)) d (max dp (up d (ddL its))) ∧ Below L w w' ∧ Spares L w w' := by
  have OWN := hid own
  have HS := hid hs
  have HN := hid h
  have HL := hid hls
  have hlL := hls.lt
  obtain ⟨N, hN⟩ : ∃ N, its.length = N := ⟨_, rfl⟩
  have hsl : ∃ ao c, v = .slice ao N c := by
    rcases own_formP own with ⟨q, q2⟩ | ⟨g, c, q⟩
    · exact ⟨none, 0, by rw [q, ← hN, q2]⟩
    · exact ⟨_, c, by rw [q, hN]⟩
  obtain ⟨ao, c, rfl⟩ := hsl
  rw [hN] at hlen
  have HNN := hid hN
  clear own h hs hls hN
  go_enter Tryz.func205, Tryz.ntmps205
  go_wp2_with fail
  go_loopw [2, 7] (fun nx i wr => ∃ (k : Nat) (done todo : List It) (ys : List In) (nxv : Nat), k ≤ N ∧ i = .int .i64 ((k : Int) - 1) ∧ nx = .int .i64 nxv ∧ its = todo ++ done ∧ todo.length = k ∧ Ls wr L (n + lenL done) (flatI ys) d (max dp (up d (ddL done))) ∧ Below L w wr ∧ Spares L w wr ∧
      Hid (ys ++ (emRow todo.reverse (n + lenL done) nxv d).1 = xs ++ (emRow its.reverse n next d).1 ∧ (emRow todo.reverse (n + lenL done) nxv d).2 = (emRow its.reverse n next d).2)) (fun _ i _ => ((intOf i) + 1).toNat)
  case atStart => exact ⟨N, [], its, xs, next, Nat.le_refl _, by go_num, rfl, by simp, HNN.out, by rw [show ddL [] = 0 from rfl, up_zero]; exact HL.out, Below.refl _ _, Spares.keep hlL (Kp.refl _ _), hid ⟨rfl, rfl⟩⟩
  case round =>
    obtain ⟨k, done, todo, ys, nxv, hk, rfl, rfl, hpc, htl, ls, bl, sp, eqs⟩ := hrel
    match k, htl, hk with
    | 0, htl, hk =>
      have htd : todo = [] := List.length_eq_zero_iff.1 htl
      subst htd
      have q := eqs.out
      simp only [List.reverse_nil, emRow, List.append_nil] at q
      have hdl : done = its := by rw [hpc]; simp
      have LS := hid ls
      have Q := hid (And.intro q hdl)
      clear ls q hpc eqs htl hdl
      go_wp2_with fail
      go_ret
      refine ⟨?_, ?_, bl, sp⟩
      · rw [← Q.out.1.2]; go_num
      · have := LS.out
        rw [Q.out.1.1, Q.out.2] at this
        exact this
    | j + 1, htl, hk =>
      rcases List.eq_nil_or_concat todo with hnil | ⟨td, p, hcons⟩
      · rw [hnil] at htl; cases htl
      rw [List.concat_eq_append] at hcons
      subst hcons
      have htd : td.length = j := by simpa using htl
      have ej : (((j + 1 : Nat)) : Int) - 1 = (j : Int) := by omega
      rw [ej]
      have hpm : p ∈ its := by rw [hpc]; simp
      have hdl : n + lenL done + p.len ≤ 1000 ∧ d + p.len ≤ 2000 ∧ max dp (up d (ddL done)) ≤ 10000 := by
        rw [hpc, lenL_append, lenL_append] at hn hd
        have e1 : lenL [p] = p.len := by simp [lenL]
        have e2 := up_le d (ddL done)
        have e3 := ddL_le done (fun i hi => HN.out i (by rw [hpc]; simp [hi]))
        omega
      obtain ⟨fe, m1, m2, ce⟩ := (HN.out p hpm).emits
      rcases own_formP OWN.out with ⟨_, q⟩ | ⟨r, c', q⟩
      · rw [hpc] at q; simp at q
      · simp only [Value.slice.injEq] at q
        obtain ⟨rfl, hx, rfl⟩ := q
        have o := OWN.out
        rw [hx] at o
        have hc := row_at o j p.v (by rw [List.getElem?_map, hpc, List.append_assoc, List.getElem?_append_right (by omega), htd, Nat.sub_self]; rfl)
        rw [Nat.zero_add] at hc
        have hrb : lo ≤ r ∧ r < hi := hb r rfl
        have hrl : r < hi := hrb.2
        have hc2 : wr.cell? ⟨r, j, none⟩ = some (.iface p.tv p.xv) := (bl.cell (p := ⟨r, j, none⟩) (Nat.lt_of_lt_of_le hrl hL)).trans (HS.out.cell hc hrb)
        have C := hid (ce wr L _ ys d _ nxv (HS.out.below bl hL) hL hdl.1 hdl.2.1 hdl.2.2 ls)
        have HPC := hid (And.intro hpc htd)
        clear hc o hx hpc htl htd ej ls ce hrb hrl hpm
        go_wp2_with fail
        refine C.out.mono ?_
        rintro e w1 ⟨rfl, l1, b1, s1⟩
        have L1 := hid l1
        clear l1
        go_wp2_with fail
        refine ⟨⟨j, p :: done, td, ys ++ (p.em (n + lenL done) nxv d).1, (p.em (n + lenL done) nxv d).2, by omega, by go_num, rfl, by rw [HPC.out.1]; simp, HPC.out.2, ?_, bl.trans b1, sp.trans s1, hid ?_⟩, by simp [intOf]⟩
        · have := L1.out
          rw [up_max, Nat.max_comm (ddL done) p.dd] at this
          rw [show n + lenL (p :: done) = n + lenL done + p.len by show n + (p.len + lenL done) = _; omega]
          exact this
        · have q := eqs.out
          rw [List.reverse_append, List.reverse_singleton, List.singleton_append, emRow, ← List.append_assoc] at q
          rw [show n + lenL (p :: done) = n + lenL done + p.len by show n + (p.len + lenL done) = _; omega]
          exact q

theorem nd_row {lo hi B : Nat} {w0 : World} {its : List It} {v : Value} (own : w0.ownsRow B 173 1 v its.length (its.map It.v)) (hb : ∀ r, v.ownBlock = some r → lo ≤ r ∧ r < hi) (h : ∀ i ∈ its, Nd lo hi w0 i) (hlen : its.length ≤ 200) : Nd lo hi w0 (rowIt v its) :=
  ⟨⟨_, size_of_row _, (fun _ _ => by kernel_rfl), fun w hs => row_sizeN own hb h hlen hs⟩, ⟨_, emit_of_row _, (fun _ _ _ _ => by kernel_rfl), fun w L n xs d dp next hs hL hn hd hdp hls => row_emitN own hb h hlen hs hL hn hd hdp hls⟩,
    fun n next d => by show (emRow its.reverse n next d).1.length = lenL its; rw [lens_row its.reverse (fun i hi => h i (by simpa using hi)), lenL_reverse], by show min (szL its) 301 ≤ 301; omega, ddL_le its h⟩
end Go.Proofs.YtonnimbcekhbgaaGreatDoor

/- Nodes: branches. -/
namespace Go.Proofs.YtonnimbcekhbgaaGreatDoor
open Go.RowKit

section
variable {L n : Nat} {xs : List In} {d dp : Nat} {w : World}
theorem addSplit (h : Ls w L n (flatI xs) d dp) (hn : n ≤ 100000) (nx ot : Nat) :
    Calls Tryz.prog 144 #[.pointer (some ⟨L, 0, none⟩), .agg (ins0 4 nx ot 0 0).toArray] w fun e w' => e = .returned (.int .i64 n) ∧ Ls w' L (n + 1) (flatI (xs ++ [noIn 4 nx ot 0 0])) d dp ∧ Below L w w' ∧ Spares L w w' := addI0 h hn 4 nx ot 0 0
theorem addNote (h : Ls w L n (flatI xs) d dp) (hn : n ≤ 100000) (nx sl : Nat) :
    Calls Tryz.prog 144 #[.pointer (some ⟨L, 0, none⟩), .agg (ins0 3 nx 0 sl 0).toArray] w fun e w' => e = .returned (.int .i64 n) ∧ Ls w' L (n + 1) (flatI (xs ++ [noIn 3 nx 0 sl 0])) d dp ∧ Below L w w' ∧ Spares L w w' := addI0 h hn 3 nx 0 sl 0
end

theorem lens_moreB {lo hi : Nat} {w0 : World} : ∀ (l : List It), (∀ i ∈ l, Nd lo hi w0 i) → ∀ bg n next d, (emMoreB l bg n next d).1.length = lenL l + l.length
  | [], _, _, _, _, _ => rfl
  | p :: l, h, bg, n, next, d => by
    show ((p.em n next d).1 ++ (_ :: _)).length = p.len + lenL l + (l.length + 1)
    rw [List.length_append, List.length_cons, (h p (by simp)).lens, lens_moreB l (fun i hi => h i (by simp [hi]))]
    omega
theorem lens_branches {lo hi : Nat} {w0 : World} (l : List It) (h : ∀ i ∈ l, Nd lo hi w0 i) (n next d : Nat) : (emBranches l n next d).1.length = lenL l + (l.length - 1) := by
  cases l with
  | nil => rfl
  | cons p l =>
    show ((p.em n next d).1 ++ _).length = p.len + lenL l + (l.length + 1 - 1)
    rw [List.length_append, (h p (by simp)).lens, lens_moreB l (fun i hi => h i (by simp [hi]))]
    omega

set_option maxRecDepth 100000 in
set_option maxHeartbeats 1000000 in
theorem branches_sizeN {lo hi B : Nat} {w0 w : World} {its : List It} {v : Value} (own : w0.ownsRow B 173 1 v its.length (its.map It.v)) (hb : ∀ r, v.ownBlock = some r → lo ≤ r ∧ r < hi) (h : ∀ i ∈ its, Nd lo hi w0 i) (hlen : its.length ≤ 200) (hne : 0 < its.length) (hs : Same lo hi w0 w) :
    Calls Tryz.prog 204 #[v] w fun e w' => e = .returned (.int .i64 ((min (szL its + (its.length - 1)) 301 : Nat) : Int)) ∧ Kp [] w w' := by
  have OWN := hid own
  have HS := hid hs
  have HN := hid h
  obtain ⟨n, hn⟩ : ∃ n, its.length = n := ⟨_, rfl⟩
  have hsl : ∃ ao c, v = .slice ao n c := by
    rcases own_formP own with ⟨q, q2⟩ | ⟨g, c, q⟩
    · exact ⟨none, 0, by rw [q, ← hn, q2]⟩
    · exact ⟨_, c, by rw [q, hn]⟩
  obtain ⟨ao, c, rfl⟩ := hsl
  have hall := szL_le its h
  rw [hn] at hlen hall hne
  have HNN := hid hn
  obtain ⟨n1, hn1⟩ : ∃ n1 : Nat, (n : Int) - 1 = (n1 : Int) := ⟨n - 1, by omega⟩
  have wn1 := wrap_i64_nat n1 (by omega)
  have HN1 : Hid (n1 = n - 1) := hid (by omega)
  clear own hs h hn
  go_enter Tryz.func204, Tryz.ntmps204
  go_wp2_with fail
  go_loopw [3, 11] (fun s i wr => ∃ k z : Nat, k ≤ n ∧ z = n1 + szL (its.take k) ∧ z ≤ n + k * 301 ∧ s = .int .i64 z ∧ i = .int .i64 k ∧ Kp [] w wr) (fun _ i _ => n - (intOf i).toNat)
  case atStart => exact ⟨0, n1, by omega, by simp [szL], by omega, rfl, rfl, Kp.refl _ _⟩
  case round =>
    obtain ⟨k, z, hk, hz, hzk, rfl, rfl, kr⟩ := hrel
    have HZ := hid hz
    clear hz
    by_cases hlt : k < n
    · obtain ⟨p, hp⟩ : ∃ p, its[k]? = some p := ⟨its[k]'(by have := HNN.out; omega), List.getElem?_eq_getElem (by have := HNN.out; omega)⟩
      have hpm : p ∈ its := List.mem_of_getElem? hp
      obtain ⟨fs, m1, m2, cs⟩ := (HN.out p hpm).sized
      have psz := (HN.out p hpm).sz
      rcases own_formP OWN.out with ⟨_, q⟩ | ⟨r, c', q⟩
      · have := HNN.out; omega
      · simp only [Value.slice.injEq] at q
        obtain ⟨rfl, hx, rfl⟩ := q
        have o := OWN.out
        rw [hx] at o
        have hc := row_at o k p.v (by rw [List.getElem?_map, hp]; rfl)
        rw [Nat.zero_add] at hc
        have hrb : lo ≤ r ∧ r < hi := hb r rfl
        have hc2 : wr.cell? ⟨r, k, none⟩ = some (.iface p.tv p.xv) := (kr.cell (p := ⟨r, k, none⟩) (World.block_lt_of_cell? _ _ (HS.out.cell hc hrb)) (by simp)).trans (HS.out.cell hc hrb)
        have C := hid (cs wr (HS.out.kp kr))
        have HP := hid hp
        clear hc o hx hp cs hrb
        go_wp2_with fail
        refine C.out.mono ?_
        rintro e w1 ⟨rfl, k1⟩
        obtain ⟨z1, hz1⟩ : ∃ z1 : Nat, z1 = z + p.sz := ⟨_, rfl⟩
        have hsum : (z : Int) + (p.sz : Int) = (z1 : Int) := by omega
        have wsum := wrap_i64_nat z1 (by omega)
        have HZ1 := hid hz1
        have hz1k : z1 ≤ n + (k + 1) * 301 := by omega
        clear hz1
        go_wp2_with fail
        exact ⟨⟨k + 1, z1, by omega, by rw [szL_take its k p HP.out, HZ1.out, HZ.out]; omega, hz1k, rfl, by go_num, kr.trans k1⟩, by simp [intOf]; omega⟩
    · have hkn : k = n := by omega
      subst hkn
      have hmin : min (z : Int) 301 = ((min z 301 : Nat) : Int) := by omega
      go_wp2_with fail
      all_goals go_ret
      all_goals
        refine ⟨ret_int ?_, kr⟩
        have e1 := HZ.out
        rw [List.take_of_length_le (by have := HNN.out; omega)] at e1
        have e2 := HNN.out
        have e3 := HN1.out
        rw [e2]
        omega

set_option maxRecDepth 100000 in
set_option maxHeartbeats 1000000 in
theorem branches_emitN {lo hi B L n d dp next : Nat} {xs : List In} {w0 w : World} {its : List It} {v : Value} (own : w0.ownsRow B 173 1 v its.length (its.map It.v)) (hb : ∀ r, v.ownBlock = some r → lo ≤ r ∧ r < hi) (h : ∀ i ∈ its, Nd lo hi w0 i) (hlen : its.length ≤ 200) (hne : 0 < its.length) (hs : Same lo hi w0 w) (hL : hi ≤ L) (hn : n + (lenL its + (its.length - 1)) ≤ 1000) (hd : d + (lenL its + (its.length - 1)) ≤ 2000) (hdp : dp ≤ 10000) (hls : Ls w L n (flatI xs) d dp) :
    Calls Tryz.prog 203 #[v, .pointer (some ⟨L, 0, none⟩), .int .i64 next] w fun e w' => e = .returned (.int .i64 (emBranches its.reverse n next d).2) ∧ Ls w' L (n + (lenL its + (its.length - 1))) (flatI (xs ++ (emBranches its.reverse n next d).1)) d (max dp (up d (ddL its))) ∧ Below L w w' ∧ Spares L w w' := by
  have OWN := hid own
  have HS := hid hs
  have HN := hid h
  rcases List.eq_nil_or_concat its with hnil | ⟨ini, la, hcat⟩
  · rw [hnil] at hne; cases hne
  rw [List.concat_eq_append] at hcat
  obtain ⟨N, hN⟩ : ∃ N, its.length = N + 1 := ⟨its.length - 1, by omega⟩
  have hini : ini.length = N := by rw [hcat] at hN; simpa using hN
  rcases own_formP own with ⟨_, q2⟩ | ⟨r, c, q⟩
  · omega
  rw [hN] at q
  subst q
  have o := own
  rw [hN] at o
  have hrb : lo ≤ r ∧ r < hi := hb r rfl
  have cellAt : Hid (∀ (k : Nat) (p : It), its[k]? = some p → ∀ W, Same lo hi w0 W → W.cell? ⟨r, k, none⟩ = some (.iface p.tv p.xv)) := hid (fun k p hp W hW => by
    have hc := row_at o k p.v (by rw [List.getElem?_map, hp]; rfl)
    rw [Nat.zero_add] at hc
    exact hW.cell hc hrb)
  have hla : its[N]? = some la := by rw [hcat, List.getElem?_append_right (by omega), hini, Nat.sub_self]; rfl
  have c0 := cellAt.out N la hla w hs
  have hlam : la ∈ its := List.mem_of_getElem? hla
  obtain ⟨fe, m1, m2, ce⟩ := (h la hlam).emits
  have hlen0 : n + la.len ≤ 1000 ∧ d + la.len ≤ 2000 := by
    rw [hcat, lenL_append] at hn hd
    have : lenL [la] = la.len := by simp [lenL]
    omega
  have C := hid (ce w L n xs d dp next hs hL hlen0.1 hlen0.2 hdp hls)
  have HD := hid hd
  clear hd
  obtain ⟨N1, hN1⟩ : ∃ N1 : Nat, N1 = N + 1 := ⟨_, rfl⟩
  have eN1 : (N1 : Int) - 1 = (N : Int) := by omega
  have wN := wrap_i64_nat N (by omega)
  have hNlt : N < N1 := by omega
  have HH := hid (And.intro hcat (And.intro hini (And.intro hn (And.intro hN hN1))))
  rw [← hN1]
  have hN300 : N ≤ 300 := by omega
  clear own h hs hls hN o hla ce hcat hini hn hlen hne hN1 hlam hlen0
  go_enter Tryz.func203, Tryz.ntmps203
  go_wp2_with fail
  refine C.out.mono ?_
  rintro e w1 ⟨rfl, l1, b1, s1⟩
  have H1 := hid (And.intro l1 (And.intro b1 s1))
  clear l1 b1 s1 c0 m1 m2 C
  obtain ⟨bg0, hbg0⟩ : ∃ bg0, bg0 = (la.em n next d).2 := ⟨_, rfl⟩
  rw [← hbg0]
  have HBG := hid hbg0
  clear hbg0
  go_wp2_with fail
  go_loopw [8, 9] (fun bgv i wr => ∃ (k : Nat) (done todo : List It) (ys : List In) (bg : Nat), k ≤ N ∧ i = .int .i64 ((k : Int) - 1) ∧ bgv = .int .i64 bg ∧ its = todo ++ done ∧ todo.length = k ∧ 0 < done.length ∧ Ls wr L (n + (lenL done + (done.length - 1))) (flatI ys) d (max dp (up d (ddL done))) ∧ Below L w wr ∧ Spares L w wr ∧
      Hid (ys ++ (emMoreB todo.reverse bg (n + (lenL done + (done.length - 1))) next d).1 = xs ++ (emBranches its.reverse n next d).1 ∧ (emMoreB todo.reverse bg (n + (lenL done + (done.length - 1))) next d).2 = (emBranches its.reverse n next d).2)) (fun _ i _ => ((intOf i) + 1).toNat)
  case atStart =>
    obtain ⟨hcat, hini, _⟩ := HH.out
    refine ⟨N, [la], ini, xs ++ (la.em n next d).1, bg0, Nat.le_refl _, by go_num, rfl, hcat, hini, by simp, ?_, H1.out.2.1, H1.out.2.2, hid ?_⟩
    · have := H1.out.1
      simpa [lenL, ddL] using this
    · rw [HBG.out, hcat, List.reverse_append, List.reverse_singleton, List.singleton_append, emBranches]
      simp [lenL]
  case round =>
    obtain ⟨k, done, todo, ys, bg, hk, rfl, rfl, hpc, htl, hdn, ls, bl, sp, eqs⟩ := hrel
    match k, htl, hk with
    | 0, htl, hk =>
      have htd : todo = [] := List.length_eq_zero_iff.1 htl
      subst htd
      have q := eqs.out
      simp only [List.reverse_nil, emMoreB, List.append_nil] at q
      have hdl : done = its := by rw [hpc]; simp
      have LS := hid ls
      have Q := hid (And.intro q hdl)
      clear ls q hpc eqs htl hdl
      go_wp2_with fail
      go_ret
      refine ⟨?_, ?_, bl, sp⟩
      · rw [← Q.out.1.2]; rfl
      · have := LS.out
        rw [Q.out.1.1, Q.out.2] at this
        exact this
    | j + 1, htl, hk =>
      rcases List.eq_nil_or_concat todo with hnil | ⟨td, p, hcons⟩
      · rw [hnil] at htl; cases htl
      rw [List.concat_eq_append] at hcons
      subst hcons
      have htd : td.length = j := by simpa using htl
      have ej : (((j + 1 : Nat)) : Int) - 1 = (j : Int) := by omega
      rw [ej]
      have hpi : its[j]? = some p := by rw [hpc, List.append_assoc, List.getElem?_append_right (by omega), htd, Nat.sub_self]; rfl
      have hpm : p ∈ its := List.mem_of_getElem? hpi
      have hdl : n + (lenL done + (done.length - 1)) + p.len + 1 ≤ 1000 ∧ d + p.len ≤ 2000 ∧ max dp (up d (ddL done)) ≤ 10000 := by
        have := HH.out.2.2.1
        have q := HD.out
        rw [hpc, lenL_append, lenL_append] at this q
        have e1 : lenL [p] = p.len := by simp [lenL]
        have e2 := up_le d (ddL done)
        have e3 := ddL_le done (fun i hi => HN.out i (by rw [hpc]; simp [hi]))
        simp only [List.length_append, List.length_singleton] at this q
        omega
      obtain ⟨fe, m1, m2, ce⟩ := (HN.out p hpm).emits
      have hc2 := cellAt.out j p hpi wr (HS.out.below bl hL)
      have C := hid (ce wr L _ ys d _ next (HS.out.below bl hL) hL (by omega) hdl.2.1 hdl.2.2 ls)
      have HPC := hid (And.intro hpc htd)
      have hjN : j < N1 := by omega
      clear hpc htl htd ej ls ce hpi hpm
      go_wp2_with fail
      refine C.out.mono ?_
      rintro e w1' ⟨rfl, l1, b1, s1⟩
      have L1 := hid (And.intro b1 s1)
      obtain ⟨nx, hnx⟩ : ∃ nx, nx = (p.em (n + (lenL done + (done.length - 1))) next d).2 := ⟨_, rfl⟩
      rw [← hnx]
      have HNX := hid hnx
      clear b1 s1 hnx
      have A := hid (addSplit l1 (by omega) nx bg)
      clear l1
      go_wp2_with fail
      refine A.out.mono ?_
      rintro e w2' ⟨rfl, l2, b2, s2⟩
      have L2 := hid l2
      clear l2 A C
      go_wp2_with fail
      refine ⟨⟨j, p :: done, td, ys ++ (p.em (n + (lenL done + (done.length - 1))) next d).1 ++ [noIn 4 nx bg 0 0], n + (lenL done + (done.length - 1)) + p.len, by omega, by go_num, rfl, by rw [HPC.out.1]; simp, HPC.out.2, by simp, ?_, bl.trans (L1.out.1.trans b2), sp.trans (L1.out.2.trans s2), hid ?_⟩, by simp [intOf]⟩
      · have := L2.out
        rw [up_max, Nat.max_comm (ddL done) p.dd] at this
        rw [show n + (lenL (p :: done) + ((p :: done).length - 1)) = n + (lenL done + (done.length - 1)) + p.len + 1 by show n + (p.len + lenL done + (done.length + 1 - 1)) = _; omega]
        exact this
      · have q := eqs.out
        rw [List.reverse_append, List.reverse_singleton, List.singleton_append, emMoreB] at q
        rw [show n + (lenL (p :: done) + ((p :: done).length - 1)) = n + (lenL done + (done.length - 1)) + p.len + 1 by show n + (p.len + lenL done + (done.length + 1 - 1)) = _; omega]
        rw [HNX.out]
        refine ⟨?_, q.2⟩
        rw [← q.1]
        simp [List.append_assoc]

theorem nd_branches {lo hi B : Nat} {w0 : World} {its : List It} {v : Value} (own : w0.ownsRow B 173 1 v its.length (its.map It.v)) (hb : ∀ r, v.ownBlock = some r → lo ≤ r ∧ r < hi) (h : ∀ i ∈ its, Nd lo hi w0 i) (hlen : its.length ≤ 200) (hne : 0 < its.length) : Nd lo hi w0 (branchesIt v its) :=
  ⟨⟨_, size_of_branches _, (fun _ _ => by kernel_rfl), fun w hs => branches_sizeN own hb h hlen hne hs⟩, ⟨_, emit_of_branches _, (fun _ _ _ _ => by kernel_rfl), fun w L n xs d dp next hs hL hn hd hdp hls => branches_emitN own hb h hlen hne hs hL hn hd hdp hls⟩,
    fun n next d => by show (emBranches its.reverse n next d).1.length = lenL its + (its.length - 1); rw [lens_branches its.reverse (fun i hi => h i (by simpa using hi)), lenL_reverse, List.length_reverse], by show min _ 301 ≤ 301; omega, Nat.le_trans (ddL_le its h) (Nat.le_add_right _ _)⟩
end Go.Proofs.YtonnimbcekhbgaaGreatDoor

/- Nodes: a group. -/
namespace Go.Proofs.YtonnimbcekhbgaaGreatDoor
open Go.RowKit

theorem size_of_group (v : Value) (w : World) : (method 348 229 v "ribbon/pattern.size").run Tryz.prog w = .ok (216, v) w := by kernel_rfl
theorem emit_of_group (v : Value) (w : World) : (method 348 229 v "ribbon/pattern.emit").run Tryz.prog w = .ok (215, v) w := by kernel_rfl

set_option maxRecDepth 100000 in
set_option maxHeartbeats 1000000 in
theorem group_sizeN {lo hi g : Nat} {w0 w : World} {i : It} (h : Nd lo hi w0 i) (hs : Same lo hi w0 w) :
    Calls Tryz.prog 216 #[.agg #[.int .i64 g, .iface i.tv i.xv]] w fun e w' => e = .returned (.int .i64 ((min (i.sz + 2) 301 : Nat) : Int)) ∧ Kp [] w w' := by
  obtain ⟨fs, m1, m2, cs⟩ := h.sized
  have hsz := h.sz
  have k0 := Kp.alloc [] w (.cells #[.int .i64 g, .iface i.tv i.xv] 229)
  have C := hid (cs _ (hs.kp k0))
  obtain ⟨z1, hz1⟩ : ∃ z1 : Nat, z1 = i.sz + 2 := ⟨_, rfl⟩
  have hsum : (i.sz : Int) + 2 = (z1 : Int) := by omega
  have wsum := wrap_i64_nat z1 (by omega)
  have hmin : min (z1 : Int) 301 = ((min z1 301 : Nat) : Int) := by omega
  have HZ := hid hz1
  clear cs h hs hz1
  go_enter Tryz.func216, Tryz.ntmps216
  go_wp2_with fail
  refine C.out.mono ?_
  rintro e w1 ⟨rfl, k1⟩
  go_wp2_with fail
  all_goals go_ret
  all_goals
    refine ⟨ret_int ?_, k0.trans k1⟩
    have := HZ.out
    omega

set_option maxRecDepth 100000 in
set_option maxHeartbeats 2000000 in
theorem group_emitN {lo hi g L n d dp next : Nat} {xs : List In} {w0 w : World} {i : It} (h : Nd lo hi w0 i) (hg : g ≤ 9) (hs : Same lo hi w0 w) (hL : hi ≤ L) (hn : n + (i.len + 2) ≤ 1000) (hd : d + (i.len + 2) ≤ 2000) (hdp : dp ≤ 10000) (hls : Ls w L n (flatI xs) d dp) :
    Calls Tryz.prog 215 #[.agg #[.int .i64 g, .iface i.tv i.xv], .pointer (some ⟨L, 0, none⟩), .int .i64 next] w fun e w' => e = .returned (.int .i64 ((n + 1 + i.len : Nat) : Int)) ∧ Ls w' L (n + (i.len + 2)) (flatI (xs ++ (emGroup g i.len i.em n next d).1)) d (max dp (up d i.dd)) ∧ Below L w w' ∧ Spares L w w' := by
  obtain ⟨fe, m1, m2, ce⟩ := h.emits
  have hl := hls.lt
  obtain ⟨o, ho⟩ : ∃ o : Obj, o = .cells #[.int .i64 g, .iface i.tv i.xv] 229 := ⟨_, rfl⟩
  have k0 := Kp.alloc [] w o
  have b0 : Below L w (w.alloc o) := (Below.refl L w).alloc (by omega) _
  have h0 := hls.keep k0
  have s0 := Spares.keep hl k0
  have t0 := box_safe hls o
  obtain ⟨T, hT⟩ : ∃ T, w.heap.size = T := ⟨_, rfl⟩
  have g0 : (w.alloc o).cell? ⟨T, 0, none⟩ = some (.int .i64 g) := by rw [ho, ← hT]; simp
  have i0 : (w.alloc o).cell? ⟨T, 1, none⟩ = some (.iface i.tv i.xv) := by rw [ho, ← hT]; simp
  rw [hT] at t0
  have hs0 := hs.kp k0
  obtain ⟨g2, hg2⟩ : ∃ g2 : Nat, g2 = 2 * g := ⟨_, rfl⟩
  obtain ⟨g3, hg3⟩ : ∃ g3 : Nat, g3 = 2 * g + 1 := ⟨_, rfl⟩
  have e2 : (2 : Int) * (g : Int) = (g2 : Int) := by omega
  have e3 : (g2 : Int) + 1 = (g3 : Int) := by omega
  have w2 := wrap_i64_nat g2 (by omega)
  have w3 := wrap_i64_nat g3 (by omega)
  have HG := hid (And.intro hg2 hg3)
  clear h hs hls hg2 hg3
  have A0 := hid (addNote h0 (by omega) next g3)
  go_enter Tryz.func215, Tryz.ntmps215
  go_wp2_with fail
  rw [← ho]
  refine A0.out.mono ?_
  rintro e w1 ⟨rfl, l1, b1, s1⟩
  have i1 := s1.cell t0 i0
  have g1 := s1.cell t0 g0
  have t1 := (s1 _ t0).1
  have B1 := b0.trans b1
  have S1 := s0.trans s1
  have sm1 := hs0.below b1 hL
  have HB := hid (And.intro B1 S1)
  have C := hid (ce w1.drew L (n + 1) _ d dp n (sm1.kp (Kp.drew _ _)) hL (by omega) (by omega) hdp (l1.keep (Kp.drew _ _)))
  have hl1 := l1.lt
  have t2 := (Spares.keep hl1 (Kp.drew [] w1) _ t1).1
  have sd := Spares.keep hl1 (Kp.drew [] w1)
  clear B1 S1 b0 b1 s0 s1 i0 g0 t0 h0 A0 ce l1 hs0 sm1
  go_wp2_with fail
  refine wp_region_noPanic ?_
  refine wp_region_T (fun w' : World => w'.cell? ⟨T, 0, none⟩ = some (.int .i64 (g : Int)) ∧ w'.cell? ⟨T, 1, none⟩ = some (.iface i.tv i.xv)) 11 (by kernel_rfl) ?_
  have hS : (fun w' : World => w'.cell? ⟨T, 0, none⟩ = some (.int .i64 (g : Int)) ∧ w'.cell? ⟨T, 1, none⟩ = some (.iface i.tv i.xv)) w1.drew := ⟨g1, i1⟩
  refine wpAnyT_take (i := 0) (v := ?v0g) rfl (by kernel_rfl) (by kernel_rfl) (by kernel_rfl) (by kernel_rfl) (fun _ _ _ h => h) (Or.inl ⟨by rfl, ?y0g⟩) hS ?_
  case y0g => (intro w hSw; (try dsimp only at hSw); go_simp; (try with_reducible rfl))
  simp only [List.getElem_toArray, List.getElem_cons_zero, Act.put, List.setIfInBounds_toArray, List.set_cons_zero, List.set_cons_succ]
  refine wpAnyT_take (i := 1) (v := ?v1g) rfl (by kernel_rfl) (by kernel_rfl) (by kernel_rfl) (by kernel_rfl) (fun _ _ _ h => h) (Or.inl ⟨by rfl, ?y1g⟩) hS ?_
  case y1g => (intro w hSw; (try dsimp only at hSw); go_simp; (try with_reducible rfl))
  simp only [List.getElem_toArray, List.getElem_cons_succ, List.getElem_cons_zero, Act.put, List.setIfInBounds_toArray, List.set_cons_zero, List.set_cons_succ]
  refine wpAnyT_take (i := 2) (v := ?v2g) rfl (by kernel_rfl) (by kernel_rfl) (by kernel_rfl) (by kernel_rfl) (fun _ _ _ h => h) (Or.inl ⟨by rfl, ?y2g⟩) hS ?_
  case y2g => (intro w hSw; (try dsimp only at hSw); go_simp; (try with_reducible rfl))
  simp only [List.getElem_toArray, List.getElem_cons_succ, List.getElem_cons_zero, Act.put, List.setIfInBounds_toArray, List.set_cons_zero, List.set_cons_succ]
  refine wpAnyT_take (i := 3) (v := ?v3g) rfl (by kernel_rfl) (by kernel_rfl) (by kernel_rfl) (by kernel_rfl) (fun _ _ _ h => h) (Or.inl ⟨by rfl, ?y3g⟩) hS ?_
  case y3g => (intro w hSw; (try dsimp only at hSw); go_simp; (try with_reducible rfl))
  simp only [List.getElem_toArray, List.getElem_cons_succ, List.getElem_cons_zero, Act.put, List.setIfInBounds_toArray, List.set_cons_zero, List.set_cons_succ]
  refine wpAnyT_take (i := 4) (v := ?v4g) rfl (by kernel_rfl) (by kernel_rfl) (by kernel_rfl) (by kernel_rfl) (fun _ _ _ h => h) (Or.inl ⟨by rfl, ?y4g⟩) hS ?_
  case y4g => (intro w hSw; (try dsimp only at hSw); go_simp; (try with_reducible rfl))
  simp only [List.getElem_toArray, List.getElem_cons_succ, List.getElem_cons_zero, Act.put, List.setIfInBounds_toArray, List.set_cons_zero, List.set_cons_succ]
  refine wpAnyT_take (i := 6) (v := ?v6g) rfl (by kernel_rfl) (by kernel_rfl) (by kernel_rfl) (by kernel_rfl) (fun _ _ _ h => h) (Or.inl ⟨by rfl, ?y6g⟩) hS ?_
  case y6g => (intro w hSw; (try dsimp only at hSw); go_simp; (try with_reducible rfl))
  simp only [List.getElem_toArray, List.getElem_cons_succ, List.getElem_cons_zero, Act.put, List.setIfInBounds_toArray, List.set_cons_zero, List.set_cons_succ]
  refine wpAnyT_take (i := 7) (v := ?v7g) rfl (by kernel_rfl) (by kernel_rfl) (by kernel_rfl) (by kernel_rfl) (fun _ _ _ h => h) (Or.inl ⟨by rfl, ?y7g⟩) hS ?_
  case y7g => (intro w hSw; (try dsimp only at hSw); go_simp; (try with_reducible rfl))
  simp only [List.getElem_toArray, List.getElem_cons_succ, List.getElem_cons_zero, Act.put, List.setIfInBounds_toArray, List.set_cons_zero, List.set_cons_succ]
  refine wpAnyT_take (i := 8) (v := ?v8g) rfl (by kernel_rfl) (by kernel_rfl) (by kernel_rfl) (by kernel_rfl) (fun _ _ _ h => h) (Or.inl ⟨by rfl, ?y8g⟩) hS ?_
  case y8g => (intro w hSw; (try dsimp only at hSw); go_simp; (try with_reducible rfl))
  simp only [List.getElem_toArray, List.getElem_cons_succ, List.getElem_cons_zero, Act.put, List.setIfInBounds_toArray, List.set_cons_zero, List.set_cons_succ]
  refine wpAnyT_one (i := 5) (by kernel_rfl) rfl (fun K hK => ?_)
  go_simp
  refine C.out.mono ?_
  rintro e w2 ⟨rfl, l2, b2, s2⟩
  have S2 : (fun w' : World => w'.cell? ⟨T, 0, none⟩ = some (.int .i64 (g : Int)) ∧ w'.cell? ⟨T, 1, none⟩ = some (.iface i.tv i.xv)) w2 := ⟨s2.cell t2 g1, s2.cell t2 i1⟩
  refine hK.out _ _ (.inr S2) ?_
  clear hK K
  obtain ⟨nx, hnx⟩ : ∃ nx, nx = (i.em (n + 1) n d).2 := ⟨_, rfl⟩
  rw [← hnx]
  have HNX := hid hnx
  have A2 := hid (addNote l2 (by omega) nx g2)
  have H2 := hid (And.intro b2 s2)
  clear b2 s2 l2 hnx C
  refine wpAnyT_take (i := 9) (v := ?v9h) rfl (by kernel_rfl) (by kernel_rfl) (by kernel_rfl) (by kernel_rfl) (fun _ _ _ h => h) (Or.inl ⟨by rfl, ?y9h⟩) S2 ?_
  case y9h => (intro w hSw; (try dsimp only at hSw); go_simp; (try with_reducible rfl))
  simp only [List.getElem_toArray, List.getElem_cons_succ, List.getElem_cons_zero, Act.put, List.setIfInBounds_toArray, List.set_cons_zero, List.set_cons_succ]
  refine wpAnyT_one (i := 10) (by kernel_rfl) rfl (fun K hK => ?_)
  go_simp
  refine A2.out.mono ?_
  rintro e w3 ⟨rfl, l3, b3, s3⟩
  have t3 := (H2.out.2 _ t2).1
  have S3 : (fun w' : World => w'.cell? ⟨T, 0, none⟩ = some (.int .i64 (g : Int)) ∧ w'.cell? ⟨T, 1, none⟩ = some (.iface i.tv i.xv)) w3 := ⟨s3.cell t3 S2.1, s3.cell t3 S2.2⟩
  refine hK.out _ _ (.inr S3) ?_
  clear hK K
  refine wpAnyT_one (i := 11) (by kernel_rfl) rfl (fun K hK => ?_)
  go_simp
  refine hK.out _ _ (.inr S3) ?_
  clear hK K
  refine wpAnyT_done (by kernel_rfl) ?_ _
  refine NoPanic.normal ?_
  have L3 := hid (And.intro l3 (And.intro b3 s3))
  clear l3 b3 s3 S3 S2 hS A2
  go_wp2_with fail
  go_ret
  have bd : Below L w1 w1.drew := (Below.refl _ _).drew
  refine ⟨rfl, ?_, HB.out.1.trans (bd.trans (H2.out.1.trans L3.out.2.1)), HB.out.2.trans (sd.trans (H2.out.2.trans L3.out.2.2))⟩
  have q := L3.out.1
  rw [HNX.out, HG.out.1, HG.out.2] at q
  have e : xs ++ (emGroup g i.len i.em n next d).1 = xs ++ [noIn 3 next 0 (2 * g + 1) 0] ++ (i.em (n + 1) n d).1 ++ [noIn 3 (i.em (n + 1) n d).2 0 (2 * g) 0] := by unfold emGroup; simp
  rw [e, show n + (i.len + 2) = n + 1 + i.len + 1 by omega]
  exact q

theorem nd_group {lo hi g : Nat} {w0 : World} {i : It} (h : Nd lo hi w0 i) (hg : g ≤ 9) : Nd lo hi w0 (groupIt g i) :=
  ⟨⟨_, size_of_group _, (fun _ _ => by kernel_rfl), fun w hs => group_sizeN h hs⟩, ⟨_, emit_of_group _, (fun _ _ _ _ => by kernel_rfl), fun w L n xs d dp next hs hL hn hd hdp hls => group_emitN h hg hs hL hn hd hdp hls⟩,
    fun n next d => by show ((_ :: (_ ++ [_])) : List In).length = i.len + 2; rw [List.length_cons, List.length_append, h.lens]; rfl, by show min _ 301 ≤ 301; omega, Nat.le_trans h.ddl (Nat.le_add_right _ _)⟩
end Go.Proofs.YtonnimbcekhbgaaGreatDoor

/- Nodes: repeats. -/
namespace Go.Proofs.YtonnimbcekhbgaaGreatDoor
open Go.RowKit

end Go.Proofs.YtonnimbcekhbgaaGreatDoor

/- Nodes: as often as may be. -/
namespace Go.Proofs.YtonnimbcekhbgaaGreatDoor
open Go.RowKit

theorem flatI_at : ∀ (l : List In) (k : Nat) (i : In), l[k]? = some i → ∀ j, j < 9 → (flatI l)[k * 9 + j]? = (insI i)[j]?
  | h :: l, 0, t, e, j, hj => by
    have e' : h = t := by simpa using e
    subst e'
    show (insI h ++ flatI l)[0 * 9 + j]? = _
    rw [Nat.zero_mul, Nat.zero_add, List.getElem?_append_left hj]
  | h :: l, k + 1, t, e, j, hj => by
    have e' : l[k]? = some t := by simpa using e
    show (insI h ++ flatI l)[(k + 1) * 9 + j]? = _
    rw [List.getElem?_append_right (by show 9 ≤ _; omega)]
    have := flatI_at l k t e' j hj
    rwa [show (k + 1) * 9 + j - (insI h).length = k * 9 + j by show (k + 1) * 9 + j - 9 = _; omega]

theorem Ls.len {w : World} {L n : Nat} {xs : List In} {d dp : Nat} (h : Ls w L n (flatI xs) d dp) : xs.length = n := by
  obtain ⟨v, _, h2, _⟩ := h.code
  have := h2.1
  rw [flatI_len] at this
  omega

end Go.Proofs.YtonnimbcekhbgaaGreatDoor

/- Nodes: repeats, whole. -/
namespace Go.Proofs.YtonnimbcekhbgaaGreatDoor
open Go.RowKit

end Go.Proofs.YtonnimbcekhbgaaGreatDoor
