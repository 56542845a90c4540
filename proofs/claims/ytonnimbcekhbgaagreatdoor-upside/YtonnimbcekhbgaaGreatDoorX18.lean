/- What the claim needs of: HA. -/
import Derived.Test.YtonnimbcekhbgaaGreatDoorX14

/- HA. -/
namespace Go.Proofs.YtonnimbcekhbgaaGreatDoor
open Go.RowKit

section
variable {w0 w w' : World} {mb sb db lo hi : Nat} {s s' : Mst} {σ : Sst}

theorem ba_nil (R : List UInt8) : ((ba R).toList == []) = decide (R = []) := by
  rw [ByteArray.toList_eq, ba_list]
  cases R <;> rfl

set_option maxRecDepth 100000 in
set_option maxHeartbeats 1000000 in
/-- A line with something behind it. -/
theorem next_more {L R : List UInt8} (h : Mac w0 w mb sb db s) (hl : s.left = ba (L ++ 10 :: R)) (hn : (10 : UInt8) ∉ L) (h1000 : L.length ≤ 1000) (hR : R.length ≤ 90000) (hne : R ≠ []) (ha : s.ended = false) (hb : s.ahead = true) :
    Calls Tryz.prog 97 #[.pointer (some ⟨mb, 2, none⟩)] w fun r w' => r = .returned (.tuple #[.string (ba L), .bool true]) ∧ Goes w0 mb sb db w s w' (s.p.took R) := by
  have c2 := h.b.at_ 2 _ rfl
  have f2 := h.b.free 2
  have c3 := h.b.at_ 3 _ rfl
  have c4 := h.b.at_ 4 _ rfl
  rw [hl] at c2
  have hsz : ¬ 1000 < (ba L).size := by rw [ba_size]; omega
  have hne : ((ba R).toList == []) = false := by rw [ba_nil]; simpa using hne
  go_enter Tryz.func97, Tryz.ntmps97
  go_wp2_with fail
  refine (cut_yes w hn (by omega)).mono ?_
  rintro r w1 ⟨rfl, k1⟩
  have m1 := h.keep k1
  have d2 := (k1.cell (p := ⟨mb, 2, none⟩) h.b.lt (by simp)).trans c2
  have d3 := (k1.cell (p := ⟨mb, 3, none⟩) h.b.lt (by simp)).trans c3
  have d4 := (k1.cell (p := ⟨mb, 4, none⟩) h.b.lt (by simp)).trans c4
  have e2 := (k1.frozen (p := ⟨mb, 2, none⟩) h.b.lt (by simp)).trans f2
  have m2 := m1.set (s' := { s with left := ba R }) 2 (.string (ba R)) (by omega) rfl rfl
  have gr : Gr mb db w s.r (w1.setCell ⟨mb, 2, none⟩ (.string (ba R))) s.r := (Gr.of_kp k1 (fun _ e => by cases e)).trans (Gr.set _ _ _ _)
  have HK := hid (clone_k (ba L) (w1.setCell ⟨mb, 2, none⟩ (.string (ba R))) (by rw [ba_size]; omega))
  rw [ha] at d4
  rw [hb] at d3
  go_wp2_with fail
  refine HK.out.mono ?_
  rintro r w2 ⟨rfl, k2⟩
  go_wp2_with fail
  go_ret2
  exact ⟨rfl, _, rfl, m2.keep k2, gr.trans (Gr.of_kp k2 (fun _ e => by cases e))⟩

set_option maxRecDepth 100000 in
set_option maxHeartbeats 1000000 in
/-- A line with nothing behind it is waited with. -/
theorem next_wait {L : List UInt8} (h : Mac w0 w mb sb db s) (hl : s.left = ba (L ++ [10])) (hn : (10 : UInt8) ∉ L) (h1000 : L.length ≤ 1000) (ha : s.ended = false) (hb : s.ahead = true) :
    Calls Tryz.prog 97 #[.pointer (some ⟨mb, 2, none⟩)] w fun r w' => r = .returned (.tuple #[.string ⟨#[]⟩, .bool false]) ∧ Goes w0 mb sb db w s w' s.p := by
  have c2 := h.b.at_ 2 _ rfl
  have c3 := h.b.at_ 3 _ rfl
  have c4 := h.b.at_ 4 _ rfl
  rw [hl] at c2
  have hsz : ¬ 1000 < (ba L).size := by rw [ba_size]; omega
  have hne : ((ba []).toList == []) = true := by rw [ba_nil]; simp
  go_enter Tryz.func97, Tryz.ntmps97
  go_wp2_with fail
  refine (cut_yes (R := []) w hn (by simp; omega)).mono ?_
  rintro r w1 ⟨rfl, k1⟩
  have m1 := h.keep k1
  have d2 := (k1.cell (p := ⟨mb, 2, none⟩) h.b.lt (by simp)).trans c2
  have d3 := (k1.cell (p := ⟨mb, 3, none⟩) h.b.lt (by simp)).trans c3
  have d4 := (k1.cell (p := ⟨mb, 4, none⟩) h.b.lt (by simp)).trans c4
  have gr : Gr mb db w s.r w1 s.r := Gr.of_kp k1 (fun _ e => by cases e)
  rw [ha] at d4
  rw [hb] at d3
  go_wp2_with fail
  go_ret2
  exact ⟨rfl, _, rfl, m1, gr⟩

/-- Whether there is no line more. -/
def Pst.none (p : Pst) : Bool := p.ended && (p.left.toList == [])
set_option maxHeartbeats 1000000 in
theorem none_v {b : Bool} (h : Mac w0 w mb sb db s) (hb : s.p.none = b) : Calls Tryz.prog 90 #[.pointer (some ⟨mb, 2, none⟩)] w fun r w' => r = .returned (.bool b) ∧ w' = w := by
  have c2 := h.b.at_ 2 _ rfl
  have c4 := h.b.at_ 4 _ rfl
  have hb : (s.ended && (s.left.toList == [])) = b := hb
  go_enter Tryz.func90, Tryz.ntmps90
  cases he : s.ended with
  | false =>
    rw [he] at c4 hb
    subst hb
    go_wp2_with fail
    go_ret
    exact ⟨rfl, rfl⟩
  | true =>
    rw [he] at c4 hb
    cases hq : (s.left.toList == []) with
    | false =>
      rw [hq] at hb
      subst hb
      go_wp2_with fail
      go_ret
      exact ⟨rfl, rfl⟩
    | true =>
      rw [hq] at hb
      subst hb
      go_wp2_with fail
      go_ret
      exact ⟨rfl, rfl⟩

set_option maxHeartbeats 1000000 in
theorem says_last {g o : Nat} {b : Bool} (h : Mac w0 w mb sb db s) (h0 : w.cell? ⟨g, o, none⟩ = some (.int .i64 1)) (hb : s.p.none = b) :
    Calls Tryz.prog 126 #[.pointer (some ⟨mb, 0, none⟩), .pointer (some ⟨g, o, none⟩)] w fun r w' => r = .returned (.bool b) ∧ Goes w0 mb sb db w s w' s.p := by
  have H := hid (none_v h hb)
  go_enter Tryz.func126, Tryz.ntmps126
  go_wp2_with fail
  refine H.out.mono ?_
  rintro r w1 ⟨rfl, rfl⟩
  go_wp2_with fail
  go_ret
  exact ⟨rfl, Goes.refl h⟩
set_option maxHeartbeats 1000000 in
theorem addressed_last {g o c p : Nat} {b : Bool} (h : Mac w0 w mb sb db s) (h0 : w.cell? ⟨g, o, none⟩ = some (.slice (some ⟨p, 0, none⟩) 1 c)) (q0 : w.cell? ⟨p, 0, none⟩ = some (.int .i64 1)) (hb : s.p.none = b) :
    Calls Tryz.prog 100 #[.pointer (some ⟨mb, 0, none⟩), .pointer (some ⟨g, o, none⟩)] w fun r w' => r = .returned (.bool b) ∧ Goes w0 mb sb db w s w' s.p := by
  have H := hid (says_last h q0 hb)
  go_enter Tryz.func100, Tryz.ntmps100
  go_wp2_with fail
  refine H.out.mono ?_
  rintro r w1 ⟨rfl, g1⟩
  go_wp2_with fail
  go_ret
  exact ⟨rfl, g1⟩

set_option maxRecDepth 100000 in
theorem bounded_h {t : ByteArray} (ht : t.size ≤ 4000) (w : World) : Calls Tryz.prog 85 #[.string t] w fun r w' => r = .returned (.string t) ∧ w' = w := by
  have hq : ¬ 4000 < t.size := by omega
  go_enter Tryz.func85, Tryz.ntmps85
  go_wp2_with fail
  go_ret
  exact ⟨rfl, rfl⟩
set_option maxRecDepth 100000 in
set_option maxHeartbeats 1000000 in
theorem joined_v {a b : List UInt8} (h : a.length + 1 + b.length ≤ 4000) (w : World) : Calls Tryz.prog 89 #[.string (ba a), .string (ba b)] w fun r w' => r = .returned (.string (ba (a ++ 10 :: b))) ∧ w' = w := by
  obtain ⟨c, hc⟩ : ∃ c, c = a ++ [10] := ⟨_, rfl⟩
  obtain ⟨d, hd⟩ : ∃ d, d = c ++ b := ⟨_, rfl⟩
  have e1 : ba a ++ ⟨#[10]⟩ = ba c := by rw [hc]; exact ba_app a [10]
  have e2 : ba c ++ ba b = ba d := by rw [hd]; exact ba_app c b
  have ed : a ++ 10 :: b = d := by rw [hd, hc]; simp
  have za := ba_size a
  have zb := ba_size b
  have zc : (ba c).size = a.length + 1 := by rw [ba_size, hc, List.length_append]; rfl
  have zd : (ba d).size = a.length + 1 + b.length := by rw [ba_size, hd, hc, List.length_append, List.length_append]; rfl
  have o1 : ¬ 9223372036854775807 < a.length + 1 := by omega
  have o2 : ¬ 9223372036854775807 < a.length + 1 + b.length := by omega
  rw [ed]
  have HB := hid (fun w => bounded_h (t := ba d) (by omega) w)
  clear hc hd ed
  go_enter Tryz.func89, Tryz.ntmps89
  go_wp2_with fail
  refine (HB.out _).mono ?_
  rintro r w1 ⟨rfl, rfl⟩
  go_wp2_with fail
  go_ret
  exact ⟨rfl, rfl⟩

/-- What G, h, N, b do. -/
def Pst.got (a b : List UInt8) (p : Pst) : Pst := { p with space := ba (a ++ 10 :: b) }
def Pst.holds (p : Pst) : Pst := { p with held := p.space }
abbrev gmV : Value := .func (.func 94) #[] #[]
def Pst.asks (p : Pst) : Pst := { p with wants := gmV }
def Pst.goto (k : Nat) (p : Pst) : Pst := { p with pc := k }

set_option maxRecDepth 100000 in
set_option maxHeartbeats 1000000 in
theorem getBehind_v {cp : Value} {a b : List UInt8} (h : Mac w0 w mb sb db s) (ha : s.space = ba a) (hb : s.held = ba b) (hl : a.length + 1 + b.length ≤ 4000) :
    Calls Tryz.prog 47 #[.pointer (some ⟨mb, 0, none⟩), cp] w fun r w' => r = .returned (.tuple #[]) ∧ Goes w0 mb sb db w s w' (s.p.got a b) := by
  have c9 := h.b.at_ 9 _ rfl
  have c10 := h.b.at_ 10 _ rfl
  have f9 := h.b.free 9
  rw [ha] at c9
  rw [hb] at c10
  have H := hid (fun w => joined_v hl w)
  have m1 := h.keep (Kp.drew [] w)
  have m2 := m1.set (s' := { s with space := ba (a ++ 10 :: b) }) 9 (.string (ba (a ++ 10 :: b))) (by omega) rfl rfl
  have gr : Gr mb db w s.r (w.drew.setCell ⟨mb, 9, none⟩ (.string (ba (a ++ 10 :: b)))) s.r := (Gr.of_kp (Kp.drew [] w) (fun _ e => by cases e)).trans (Gr.set _ _ _ _)
  have G2 : Hid (Goes w0 mb sb db w s (w.drew.setCell ⟨mb, 9, none⟩ (.string (ba (a ++ 10 :: b)))) (s.p.got a b)) := hid ⟨_, rfl, m2, gr⟩
  clear m1 m2 gr
  go_enter Tryz.func47, Tryz.ntmps47
  go_region_with (go_at_call 89; refine (H.out _).mono ?_; rintro r w1 ⟨rfl, rfl⟩)
  all_goals
    go_wp2_with fail
    go_end0
    exact ⟨rfl, G2.out⟩

set_option maxHeartbeats 1000000 in
theorem hold_v {cp : Value} (h : Mac w0 w mb sb db s) :
    Calls Tryz.prog 48 #[.pointer (some ⟨mb, 0, none⟩), cp] w fun r w' => r = .returned (.tuple #[]) ∧ Goes w0 mb sb db w s w' s.p.holds := by
  have c9 := h.b.at_ 9 _ rfl
  have c10 := h.b.at_ 10 _ rfl
  have f10 := h.b.free 10
  have G := hid (Goes.set (s' := { s with held := s.space }) h 10 (.string s.space) (by omega) rfl rfl)
  go_enter Tryz.func48, Tryz.ntmps48
  go_wp2_with fail
  go_end0
  exact ⟨rfl, G.out⟩

set_option maxRecDepth 100000 in
set_option maxHeartbeats 1000000 in
theorem nextBehind_v {cp : Value} (h : Mac w0 w mb sb db s) (hb : s.r.br = []) (hn : s.p.none = false) :
    Calls Tryz.prog 52 #[.pointer (some ⟨mb, 0, none⟩), cp] w fun r w' => r = .returned (.tuple #[]) ∧ Goes w0 mb sb db w s w' s.p.asks := by
  have H := hid (none_v h hn)
  go_enter Tryz.func52, Tryz.ntmps52
  go_wp2_with fail
  refine H.out.mono ?_
  rintro r w1 ⟨rfl, rfl⟩
  go_wp2_with fail
  refine (tellBrought_none h hb).mono ?_
  rintro r w1 ⟨rfl, s1, e1, m1, gr1⟩
  have c12 := m1.b.at_ 12 _ rfl
  have f12 := m1.b.free 12
  have hst := run_store1 (P := Tryz.prog) (v := gmV) c12 f12 rfl
  go_wp2_with fail
  go_end0
  refine ⟨rfl, { s1 with wants := gmV }, ?_, m1.set 12 gmV (by omega) rfl rfl, gr1.trans (Gr.set _ _ _ _)⟩
  show ({ s1.p with wants := gmV } : Pst) = _
  rw [e1]
  rfl

set_option maxRecDepth 100000 in
set_option maxHeartbeats 1000000 in
theorem goOnWithMore_v {a b : List UInt8} (h : Mac w0 w mb sb db s) (ha : s.space = ba a) (hl : a.length + 1 + b.length ≤ 4000) :
    Calls Tryz.prog 94 #[.pointer (some ⟨mb, 0, none⟩), .string (ba b)] w fun r w' => r = .returned (.tuple #[]) ∧ Goes w0 mb sb db w s w' (s.p.got a b) := by
  have c9 := h.b.at_ 9 _ rfl
  have f9 := h.b.free 9
  rw [ha] at c9
  have H := hid (fun w => joined_v hl w)
  have G := hid (Goes.set (s' := { s with space := ba (a ++ 10 :: b) }) h 9 (.string (ba (a ++ 10 :: b))) (by omega) rfl rfl)
  go_enter Tryz.func94, Tryz.ntmps94
  go_wp2_with fail
  refine (H.out _).mono ?_
  rintro r w1 ⟨rfl, rfl⟩
  go_wp2_with fail
  go_end0
  exact ⟨rfl, G.out⟩

/-- The machine reads a line in the middle of a cycle. -/
def Pst.more (a L R : List UInt8) (p : Pst) : Pst := ({ p with left := ba R, number := p.number + 1, wants := .nilFunc } : Pst).got a L

set_option maxRecDepth 100000 in
set_option maxHeartbeats 1000000 in
theorem supplied_more {a L R : List UInt8} (h : Mac w0 w mb sb db s) (hw : s.wants = gmV) (hnum : s.number ≤ 1000000) (ha : s.space = ba a) (hl : a.length + 1 + L.length ≤ 4000)
    (hx : Calls Tryz.prog 97 #[.pointer (some ⟨mb, 2, none⟩)] w fun r w' => r = .returned (.tuple #[.string (ba L), .bool true]) ∧ Goes w0 mb sb db w s w' (s.p.took R)) :
    Calls Tryz.prog 62 #[.pointer (some ⟨mb, 0, none⟩)] w fun r w' => r = .returned (.bool true) ∧ Goes w0 mb sb db w s w' (s.p.more a L R) := by
  have c12 := h.b.at_ 12 _ rfl
  rw [hw] at c12
  have HX := hid hx
  clear hx
  have hen : Enters 94 := fun _ _ _ => by kernel_rfl
  have hbo : ∀ w, (binOp BinOp.eql 69 gmV .nilFunc).run Tryz.prog w = .ok (.bool false) w := fun _ => by kernel_rfl
  unfold Enters at hen
  go_enter Tryz.func62, Tryz.ntmps62
  go_wp2_with fail
  refine HX.out.mono ?_
  rintro r w1 ⟨rfl, s1, e1, m1, g1⟩
  have d8 := m1.b.at_ 8 _ rfl
  have f8 := m1.b.free 8
  have d12 := m1.b.at_ 12 _ rfl
  have f12 := m1.b.free 12
  have hw1 : s1.wants = gmV := (congrArg Pst.wants e1).trans hw
  have hn1 : s1.number = s.number := congrArg Pst.number e1
  have ha1 : s1.space = ba a := (congrArg Pst.space e1).trans ha
  rw [hw1] at d12
  obtain ⟨n1, hn1'⟩ : ∃ n1 : Nat, n1 = s1.number + 1 := ⟨_, rfl⟩
  have wr := wrap_i64_succ s1.number n1 hn1' (by omega)
  have m2 := m1.set (s' := { s1 with number := n1 }) 8 (.int .i64 (n1 : Int)) (by omega) rfl rfl
  have m3 := m2.set (s' := { s1 with number := n1, wants := .nilFunc }) 12 .nilFunc (by omega) rfl rfl
  have M3 := hid m3
  have hst := run_store1 (P := Tryz.prog) (w := w1.setCell ⟨mb, 8, none⟩ (.int .i64 (n1 : Int))) (v := .nilFunc) (m2.b.at_ 12 _ rfl) (m2.b.free 12) rfl
  have HN := hid (hn1'.trans (by rw [hn1]))
  clear hn1 hn1' m2 m3
  go_wp2_with fail
  refine (goOnWithMore_v (a := a) (b := L) M3.out ha1 hl).mono ?_
  rintro r w2 ⟨rfl, s2, e2, m2, g2⟩
  go_wp2_with fail
  go_ret
  refine ⟨rfl, s2, ?_, m2, g1.trans ((Gr.set _ _ _ _).trans ((Gr.set _ _ _ _).trans g2))⟩
  rw [e2]
  show ({ s1.p with number := n1, wants := .nilFunc } : Pst).got a L = _
  rw [e1, HN.out]
  rfl

set_option maxRecDepth 100000 in
set_option maxHeartbeats 1000000 in
theorem supplied_wait (h : Mac w0 w mb sb db s) (hw : s.wants = gmV)
    (hx : Calls Tryz.prog 97 #[.pointer (some ⟨mb, 2, none⟩)] w fun r w' => r = .returned (.tuple #[.string ⟨#[]⟩, .bool false]) ∧ Goes w0 mb sb db w s w' s.p) :
    Calls Tryz.prog 62 #[.pointer (some ⟨mb, 0, none⟩)] w fun r w' => r = .returned (.bool false) ∧ Goes w0 mb sb db w s w' s.p := by
  have c12 := h.b.at_ 12 _ rfl
  rw [hw] at c12
  have HX := hid hx
  clear hx
  have hbo : ∀ w, (binOp BinOp.eql 69 gmV .nilFunc).run Tryz.prog w = .ok (.bool false) w := fun _ => by kernel_rfl
  go_enter Tryz.func62, Tryz.ntmps62
  go_wp2_with fail
  refine HX.out.mono ?_
  rintro r w1 ⟨rfl, g1⟩
  go_wp2_with fail
  go_ret
  exact ⟨rfl, g1⟩

set_option maxHeartbeats 1000000 in
theorem branch_v {ca co k : Nat} (h : Mac w0 w mb sb db s) (hc : w.cell? ⟨ca, co + 5, none⟩ = some (.int .i64 k)) :
    Calls Tryz.prog 37 #[.pointer (some ⟨mb, 0, none⟩), .pointer (some ⟨ca, co, none⟩)] w fun r w' => r = .returned (.tuple #[]) ∧ Goes w0 mb sb db w s w' (s.p.goto k) := by
  have c13 := h.b.at_ 13 _ rfl
  have f13 := h.b.free 13
  have G := hid (Goes.set (s' := { s with pc := k }) h 13 (.int .i64 k) (by omega) rfl rfl)
  go_enter Tryz.func37, Tryz.ntmps37
  go_wp2_with fail
  go_end0
  exact ⟨rfl, G.out⟩
theorem enter_v {cp : Value} (h : Mac w0 w mb sb db s) :
    Calls Tryz.prog 36 #[.pointer (some ⟨mb, 0, none⟩), cp] w fun r w' => r = .returned (.tuple #[]) ∧ Goes w0 mb sb db w s w' s.p := by
  go_enter Tryz.func36, Tryz.ntmps36
  go_wp2_with fail
  go_end0
  exact ⟨rfl, Goes.refl h⟩
end
end Go.Proofs.YtonnimbcekhbgaaGreatDoor
