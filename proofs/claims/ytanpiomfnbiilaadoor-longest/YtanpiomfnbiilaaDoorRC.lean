/- The size of a row of pieces, and its instructions: contracts. -/
import Derived.Test.YtanpiomfnbiilaaDoorRB
import Derived.Test.YtanpiomfnbiilaaDoorGG
namespace Go.Proofs.YtanpiomfnbiilaaDoor
open Go.RowKit

/-- A piece: a byte of m (kind 0), the text's beginning (1) or its end (2). -/
structure Pc where
  kind : Nat
  m : Nat → Bool
def Pc.val (p : Pc) : Value := if p.kind = 0 then oneV p.m else edgeV p.kind

theorem size_of_edge (v : Value) (w : World) : (method 240 98 v "ribbon/pattern.size").run Tryd.prog w = .ok (83, v) w := by kernel_rfl
theorem emit_of_edge (v : Value) (w : World) : (method 240 98 v "ribbon/pattern.emit").run Tryd.prog w = .ok (82, v) w := by kernel_rfl

set_option maxRecDepth 100000 in
set_option maxHeartbeats 400000 in
theorem edge_size (k : Int) (w : World) : Calls Tryd.prog 83 #[.agg #[.int .i64 k]] w fun e w' => e = .returned (.int .i64 1) ∧ Kp [] w w' := by
  go_enter Tryd.func83, Tryd.ntmps83
  go_wp2
  go_ret
  exact ⟨rfl, Kp.alloc _ _ _⟩

set_option maxRecDepth 100000 in
set_option maxHeartbeats 800000 in
theorem edge_emit {L n : Nat} {xs : List Value} {d dp : Nat} {w : World} (h : Ls w L n xs d dp) (hn : n ≤ 100000) (k next : Int) :
    Calls Tryd.prog 82 #[.agg #[.int .i64 k], .pointer (some ⟨L, 0, none⟩), .int .i64 next] w fun e w' => e = .returned (.int .i64 n) ∧ Ls w' L (n + 1) (xs ++ ins0 k next 0 0 0) d dp ∧ Below L w w' := by
  have hl := h.lt
  go_enter Tryd.func82, Tryd.ntmps82
  go_wp2_with fail
  refine (listAdd0 (h.keep (Kp.alloc _ _ _)) hn k next 0 0 0).mono ?_
  rintro e w1 ⟨rfl, h1, b1⟩
  go_wp2_with fail
  go_ret
  exact ⟨rfl, h1, ((Below.refl L w).alloc (by omega) _).trans b1⟩

set_option maxRecDepth 100000 in
set_option maxHeartbeats 1000000 in
theorem row_size_any {B : Nat} {pcs : List Pc} {v : Value} {w : World} (own : w.ownsRow B 61 1 v pcs.length (pcs.map Pc.val)) (hlen : pcs.length ≤ 200) :
    Calls Tryd.prog 81 #[v] w fun e w' => e = .returned (.int .i64 pcs.length) ∧ Kp [] w w' := by
  have hm1 := size_of_one
  have hm2 := size_of_edge
  have OWN := hid own
  obtain ⟨n, hn⟩ : ∃ n, pcs.length = n := ⟨_, rfl⟩
  rw [hn] at hlen
  have hsl : ∃ ao c, v = .slice ao n c := by
    rcases own_form own with ⟨q, q2⟩ | ⟨g, c, q⟩
    · exact ⟨none, 0, by rw [q, ← hn, q2]⟩
    · exact ⟨_, c, by rw [q, hn]⟩
  obtain ⟨ao, c, rfl⟩ := hsl
  clear own
  go_enter Tryd.func81, Tryd.ntmps81
  go_wp2_with fail
  go_loopw [3, 8] (fun s i wr => ∃ k : Nat, k ≤ n ∧ s = .int .i64 k ∧ i = .int .i64 k ∧ Kp [] w wr) (fun _ i _ => n - (intOf i).toNat)
  case atStart => exact ⟨0, by omega, rfl, rfl, Kp.refl _ _⟩
  case round =>
    obtain ⟨k, hk, rfl, rfl, kr⟩ := hrel
    by_cases hlt : k < n
    · obtain ⟨p, hp⟩ : ∃ p, pcs[k]? = some p := ⟨pcs[k]'(by omega), List.getElem?_eq_getElem (by omega)⟩
      rcases own_form OWN.out with ⟨_, q⟩ | ⟨r, c', q⟩
      · omega
      · simp only [Value.slice.injEq] at q
        obtain ⟨rfl, hx, rfl⟩ := q
        clear hx
        have o := OWN.out
        rw [← hn] at o
        have hc := row_at o k p.val (by rw [List.getElem?_map, hp]; rfl)
        rw [Nat.zero_add] at hc
        have hc2 := (kr.cell (World.block_lt_of_cell? _ _ hc) (by simp)).trans hc
        clear hc o
        by_cases hk0 : p.kind = 0
        · have hv : p.val = oneV p.m := by unfold Pc.val; rw [if_pos hk0]
          rw [hv] at hc2
          have HNN := hid hn
          clear hv hp hn hk0
          go_wp2_with fail
          refine (one_size p.m _).mono ?_
          rintro e w1 ⟨rfl, k1⟩
          go_wp2_with fail
          exact ⟨⟨k + 1, by omega, by go_num, by go_num, kr.trans k1⟩, by simp [intOf]; omega⟩
        · have hv : p.val = edgeV p.kind := by unfold Pc.val; rw [if_neg hk0]
          rw [hv] at hc2
          have HNN := hid hn
          clear hv hp hn hk0
          go_wp2_with fail
          refine (edge_size p.kind _).mono ?_
          rintro e w1 ⟨rfl, k1⟩
          go_wp2_with fail
          exact ⟨⟨k + 1, by omega, by go_num, by go_num, kr.trans k1⟩, by simp [intOf]; omega⟩
    · have hkn : k = n := by omega
      subst hkn
      have hmin : min (k : Int) 301 = k := by omega
      go_wp2_with fail
      go_ret
      refine ⟨?_, kr⟩
      rw [hn]; go_num

set_option maxRecDepth 100000 in
set_option maxHeartbeats 400000 in
theorem branches_size_row {B q : Nat} {pcs : List Pc} {v : Value} {w : World} (hq : w.cell? ⟨q, 0, none⟩ = some (.iface 94 v)) (own : w.ownsRow B 61 1 v pcs.length (pcs.map Pc.val)) (hlen : pcs.length ≤ 200) :
    Calls Tryd.prog 79 #[.slice (some ⟨q, 0, none⟩) 1 1] w fun e w' => e = .returned (.int .i64 pcs.length) ∧ Kp [] w w' := by
  have hm := size_of_row
  have OWN := hid own
  have hmin : min (pcs.length : Int) 301 = pcs.length := by omega
  clear own
  go_enter Tryd.func79, Tryd.ntmps79
  go_wp2_with fail
  refine wp_loop_rounds 2 ?_
  rw [rounds_succ]
  go_wp2_with fail
  refine (row_size_any OWN.out hlen).mono ?_
  rintro e w1 ⟨rfl, k1⟩
  go_wp2_with fail
  rw [rounds_succ]
  go_wp2_with fail
  go_ret
  exact ⟨by go_num, k1⟩

/-- A piece's instruction. -/
def Pc.ins (p : Pc) (next : Int) (d : Nat) : List Value := if p.kind = 0 then Go.Proofs.YtanpiomfnbiilaaDoor.ins 0 next 0 0 d p.m else ins0 p.kind next 0 0 0
/-- The instructions of pieces, the last one first, behind n others; and where the row begins. -/
def rowCode (d : Nat) : List Pc → Nat → Int → List Value
  | [], _, _ => []
  | p :: ps, n, next => p.ins next d ++ rowCode d ps (n + 1) n
def rowBegin : List Pc → Nat → Int → Int
  | [], _, next => next
  | _ :: ps, n, _ => rowBegin ps (n + 1) n

set_option maxRecDepth 100000 in
set_option maxHeartbeats 1000000 in
theorem row_emit_any {B L n : Nat} {xs : List Value} {d dp : Nat} {pcs : List Pc} {v : Value} {w : World} (h : Ls w L n xs d dp) (hn : n ≤ 1000) (next : Int) (own : w.ownsRow B 61 1 v pcs.length (pcs.map Pc.val)) (hlen : pcs.length ≤ 200) (hvL : ∀ g, v.ownBlock = some g → g < L) :
    Calls Tryd.prog 80 #[v, .pointer (some ⟨L, 0, none⟩), .int .i64 next] w fun e w' => e = .returned (.int .i64 (rowBegin pcs.reverse n next)) ∧ Ls w' L (n + pcs.length) (xs ++ rowCode d pcs.reverse n next) d dp ∧ Below L w w' := by
  have hm1 := emit_of_one
  have hm2 := emit_of_edge
  have OWN := hid own
  have HL := hid h
  have HVL := hid hvL
  obtain ⟨N, hN⟩ : ∃ N, pcs.length = N := ⟨_, rfl⟩
  rw [hN] at hlen
  have hsl : ∃ ao c, v = .slice ao N c := by
    rcases own_form own with ⟨q, q2⟩ | ⟨g, c, q⟩
    · exact ⟨none, 0, by rw [q, ← hN, q2]⟩
    · exact ⟨_, c, by rw [q, hN]⟩
  obtain ⟨ao, c, rfl⟩ := hsl
  have HNN := hid hN
  clear own h hvL hN
  go_enter Tryd.func80, Tryd.ntmps80
  go_wp2_with fail
  go_loopw [2, 7] (fun nx i wr => ∃ (k : Nat) (done todo : List Pc) (ys : List Value) (nxv : Int), k ≤ N ∧ i = .int .i64 ((k : Int) - 1) ∧ nx = .int .i64 nxv ∧ pcs = todo ++ done ∧ todo.length = k ∧ Ls wr L (n + done.length) ys d dp ∧ Below L w wr ∧
      Hid (ys ++ rowCode d todo.reverse (n + done.length) nxv = xs ++ rowCode d pcs.reverse n next ∧ rowBegin todo.reverse (n + done.length) nxv = rowBegin pcs.reverse n next)) (fun _ i _ => ((intOf i) + 1).toNat)
  case atStart => exact ⟨N, [], pcs, xs, next, Nat.le_refl _, by go_num, rfl, by simp, HNN.out, HL.out, Below.refl _ _, hid ⟨rfl, rfl⟩⟩
  case round =>
    obtain ⟨k, done, todo, ys, nxv, hk, rfl, rfl, hpc, htl, ls, bl, eqs⟩ := hrel
    match k, htl, hk with
    | 0, htl, hk =>
      have htd : todo = [] := List.length_eq_zero_iff.1 htl
      subst htd
      have q := eqs.out
      simp only [List.reverse_nil, rowCode, rowBegin, List.append_nil] at q
      have hdl : done.length = pcs.length := by rw [hpc]; simp
      have LS := hid ls
      have Q := hid (And.intro q hdl)
      clear ls q hpc eqs htl hdl
      go_wp2_with fail
      go_ret
      refine ⟨?_, ?_, bl⟩
      · rw [← Q.out.1.2]; go_num
      · rw [← Q.out.1.1, ← Q.out.2]; exact LS.out
    | j + 1, htl, hk =>
      rcases List.eq_nil_or_concat todo with hnil | ⟨td, p, hcons⟩
      · rw [hnil] at htl; cases htl
      rw [List.concat_eq_append] at hcons
      subst hcons
      have htd : td.length = j := by simpa using htl
      have ej : (((j + 1 : Nat)) : Int) - 1 = (j : Int) := by omega
      rw [ej]
      have hdl : n + done.length ≤ 2000 := by
        have := HNN.out
        rw [hpc] at this
        simp at this
        omega
      rcases own_form OWN.out with ⟨_, q⟩ | ⟨r, c', q⟩
      · rw [hpc] at q; simp at q
      · simp only [Value.slice.injEq] at q
        obtain ⟨rfl, hx, rfl⟩ := q
        have o := OWN.out
        rw [hx] at o
        have hc := row_at o j p.val (by rw [List.getElem?_map, hpc, List.append_assoc, List.getElem?_append_right (by omega), htd, Nat.sub_self]; rfl)
        rw [Nat.zero_add] at hc
        have hc2 := (bl.cell (p := ⟨r, j, none⟩) (HVL.out r rfl)).trans hc
        have HPC := hid (And.intro hpc htd)
        have LS := hid ls
        clear hc o hx hpc htl htd ej ls
        by_cases hk0 : p.kind = 0
        · have hv : p.val = oneV p.m := by unfold Pc.val; rw [if_pos hk0]
          have hpi : ys ++ p.ins nxv d = ys ++ Go.Proofs.YtanpiomfnbiilaaDoor.ins 0 nxv 0 0 d p.m := by unfold Pc.ins; rw [if_pos hk0]
          rw [hv] at hc2
          clear hv hk0
          go_wp2_with fail
          refine (one_emit LS.out (by omega) nxv p.m).mono ?_
          rintro e w1 ⟨rfl, l1, b1⟩
          have L1 := hid l1
          clear l1
          go_wp2_with fail
          refine ⟨⟨j, p :: done, td, ys ++ p.ins nxv d, ((n + done.length : Nat) : Int), by omega, by go_num, by go_num, by rw [HPC.out.1]; simp, HPC.out.2, by rw [hpi]; exact L1.out, bl.trans b1, hid ?_⟩, by simp [intOf]⟩
          have q := eqs.out
          rw [List.reverse_append, List.reverse_singleton, List.singleton_append, rowCode, rowBegin, ← List.append_assoc] at q
          exact q
        · have hv : p.val = edgeV p.kind := by unfold Pc.val; rw [if_neg hk0]
          have hpi : ys ++ p.ins nxv d = ys ++ ins0 p.kind nxv 0 0 0 := by unfold Pc.ins; rw [if_neg hk0]
          rw [hv] at hc2
          clear hv hk0
          go_wp2_with fail
          refine (edge_emit LS.out (by omega) p.kind nxv).mono ?_
          rintro e w1 ⟨rfl, l1, b1⟩
          have L1 := hid l1
          clear l1
          go_wp2_with fail
          refine ⟨⟨j, p :: done, td, ys ++ p.ins nxv d, ((n + done.length : Nat) : Int), by omega, by go_num, by go_num, by rw [HPC.out.1]; simp, HPC.out.2, by rw [hpi]; exact L1.out, bl.trans b1, hid ?_⟩, by simp [intOf]⟩
          have q := eqs.out
          rw [List.reverse_append, List.reverse_singleton, List.singleton_append, rowCode, rowBegin, ← List.append_assoc] at q
          exact q

set_option maxRecDepth 100000 in
set_option maxHeartbeats 400000 in
theorem branches_emit_row {B L n q : Nat} {xs : List Value} {d dp : Nat} {pcs : List Pc} {v : Value} {w : World} (h : Ls w L n xs d dp) (hn : n ≤ 1000) (next : Int) (hq : w.cell? ⟨q, 0, none⟩ = some (.iface 94 v)) (own : w.ownsRow B 61 1 v pcs.length (pcs.map Pc.val)) (hlen : pcs.length ≤ 200) (hvL : ∀ g, v.ownBlock = some g → g < L) :
    Calls Tryd.prog 78 #[.slice (some ⟨q, 0, none⟩) 1 1, .pointer (some ⟨L, 0, none⟩), .int .i64 next] w fun e w' => e = .returned (.int .i64 (rowBegin pcs.reverse n next)) ∧ Ls w' L (n + pcs.length) (xs ++ rowCode d pcs.reverse n next) d dp ∧ Below L w w' := by
  have hm := emit_of_row
  have OWN := hid own
  have HL := hid h
  clear own h
  go_enter Tryd.func78, Tryd.ntmps78
  go_wp2_with fail
  refine (row_emit_any HL.out hn next OWN.out hlen hvL).mono ?_
  rintro e w1 ⟨rfl, h1, b1⟩
  have H1 := hid h1
  clear hq h1
  go_wp2_with fail
  refine wp_loop_rounds 1 ?_
  rw [rounds_succ]
  go_wp2_with fail
  go_ret
  exact ⟨rfl, H1.out, b1⟩
end Go.Proofs.YtanpiomfnbiilaaDoor
