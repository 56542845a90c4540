/- What the claim needs of: EVToEW. -/
import Derived.Test.YtonnimbcekhbgaaGreatDoorX09
import Derived.Deep.RegionWith

/- EVToEW. -/
namespace Go.Proofs.YtonnimbcekhbgaaGreatDoor
open Go.RowKit

theorem run_store1 {P : Program} {w : World} {a : Addr} {u v : Value} (hu : w.cell? a = some u) (hf : w.frozen? a = false) (h1 : v.oneCell' = true) : (store a v).run P w = .ok () (w.setCell a v) := by
  rw [run_store P w a v _ h1]; simp [hu, hf]

section
variable {w0 w w' w2 : World} {mb sb db lo hi : Nat} {s s' : Mst} {p p' : Pst} {σ : Sst}

/-- There is room for a text. -/
structure Room (s : Mst) (t : ByteArray) : Prop where
  room : s.count + t.size + 1 ≤ 200000
  out : s.r.out.length ≤ s.count
  br : s.r.br = []

abbrev bwV : Value := .func (.func 29) #[] #[]
def Pst.tellEnd (q : Bool) (p : Pst) : Pst := if q then p else p.tell p.space
def Pst.endCycle (q : Bool) (p : Pst) : Pst := { p.tellEnd q with wants := bwV }
def Pst.dropCycle (p : Pst) : Pst := { p with wants := bwV }
def Pst.begin (sp : ByteArray) (p : Pst) : Pst := { p with space := sp, pc := 0, repl := false }
def Pst.beginWith (l : ByteArray) (p : Pst) : Pst := { p with steps := 0, space := l, pc := 0, repl := false }

theorem Goes.then {p2 : Pst} (g : Goes w0 mb sb db w s w' p) (k : ∀ s', s'.p = p → Mac w0 w' mb sb db s' → Goes w0 mb sb db w' s' w2 p2) : Goes w0 mb sb db w s w2 p2 := by
  obtain ⟨s1, h1, m1, g1⟩ := g
  obtain ⟨s2, h2, m2, g2⟩ := k s1 h1 m1
  exact ⟨s2, h2, m2, g1.trans g2⟩

set_option maxRecDepth 100000 in
set_option maxHeartbeats 1000000 in
theorem tellEnd_v (h : Mac w0 w mb sb db s) (hs : Scr lo hi w0 sb 0 σ) (hr : Room s s.space) :
    Calls Tryz.prog 92 #[.pointer (some ⟨mb, 0, none⟩)] w fun r w' => r = .returned (.tuple #[]) ∧ Goes w0 mb sb db w s w' (s.p.tellEnd σ.quiet) := by
  have hq := (hs.keep h.r.kp (fun _ e => by cases e)).c0
  have c0 := h.b.at_ 0 _ rfl
  have c9 := h.b.at_ 9 _ rfl
  have hbr := hr.br
  cases hqq : σ.quiet
  · rw [hqq] at hq
    have HT := hid (tell_v (h.keep (Kp.drew [] w)) hr.room hr.out)
    go_enter Tryz.func92, Tryz.ntmps92
    go_wp2_with fail
    go_region_with (go_at_call 82; refine HT.out.mono ?_; rintro r w1 ⟨rfl, g1⟩)
    go_wp2_with fail
    obtain ⟨s1, e1, m1, gr1⟩ := g1
    have hb1 : s1.r.br = [] := by
      have := congrArg Pst.br e1
      exact this.trans hbr
    refine (tellBrought_none m1 hb1).mono ?_
    rintro r w2 ⟨rfl, s2, e2, m2, gr2⟩
    go_wp2_with fail
    go_end0
    exact ⟨rfl, s2, e2.trans e1, m2, (Gr.of_kp (Kp.drew [] w) (fun _ e => by cases e)).trans (gr1.trans gr2)⟩
  · rw [hqq] at hq
    go_enter Tryz.func92, Tryz.ntmps92
    go_wp2_with fail
    refine (tellBrought_none h hbr).mono ?_
    rintro r w2 ⟨rfl, g2⟩
    go_wp2_with fail
    go_end0
    exact ⟨rfl, g2⟩

set_option maxRecDepth 100000 in
set_option maxHeartbeats 1000000 in
theorem endCycle_v (h : Mac w0 w mb sb db s) (hs : Scr lo hi w0 sb 0 σ) (hr : Room s s.space) :
    Calls Tryz.prog 98 #[.pointer (some ⟨mb, 0, none⟩)] w fun r w' => r = .returned (.tuple #[]) ∧ Goes w0 mb sb db w s w' (s.p.endCycle σ.quiet) := by
  go_enter Tryz.func98, Tryz.ntmps98
  go_wp2_with fail
  refine (tellEnd_v h hs hr).mono ?_
  rintro r w1 ⟨rfl, s1, e1, m1, gr1⟩
  have c12 := m1.b.at_ 12 _ rfl
  have f12 := m1.b.free 12
  have hst := run_store1 (P := Tryz.prog) (v := bwV) c12 f12 rfl
  go_wp2_with fail
  go_end0
  refine ⟨rfl, { s1 with wants := bwV }, ?_, m1.set 12 bwV (by omega) rfl rfl, gr1.trans (Gr.set _ _ _ _)⟩
  show ({ s1.p with wants := bwV } : Pst) = _
  rw [e1]
  rfl

set_option maxRecDepth 100000 in
set_option maxHeartbeats 1000000 in
theorem dropCycle_v (h : Mac w0 w mb sb db s) (hb : s.r.br = []) :
    Calls Tryz.prog 83 #[.pointer (some ⟨mb, 0, none⟩)] w fun r w' => r = .returned (.tuple #[]) ∧ Goes w0 mb sb db w s w' s.p.dropCycle := by
  go_enter Tryz.func83, Tryz.ntmps83
  go_wp2_with fail
  refine (tellBrought_none h hb).mono ?_
  rintro r w1 ⟨rfl, s1, e1, m1, gr1⟩
  have c12 := m1.b.at_ 12 _ rfl
  have f12 := m1.b.free 12
  have hst := run_store1 (P := Tryz.prog) (v := bwV) c12 f12 rfl
  go_wp2_with fail
  go_end0
  refine ⟨rfl, { s1 with wants := bwV }, ?_, m1.set 12 bwV (by omega) rfl rfl, gr1.trans (Gr.set _ _ _ _)⟩
  show ({ s1.p with wants := bwV } : Pst) = _
  rw [e1]
  rfl

set_option maxRecDepth 100000 in
set_option maxHeartbeats 1000000 in
theorem begin_v {sp : ByteArray} (h : Mac w0 w mb sb db s) :
    Calls Tryz.prog 60 #[.pointer (some ⟨mb, 0, none⟩), .string sp] w fun r w' => r = .returned (.tuple #[]) ∧ Goes w0 mb sb db w s w' (s.p.begin sp) := by
  have c9 := h.b.at_ 9 _ rfl
  have f9 := h.b.free 9
  have c13 := h.b.at_ 13 _ rfl
  have f13 := h.b.free 13
  have c15 := h.b.at_ 15 _ rfl
  have f15 := h.b.free 15
  go_enter Tryz.func60, Tryz.ntmps60
  go_wp2_with fail
  go_end0
  have m1 := h.set (s' := { s with space := sp }) 9 (.string sp) (by omega) rfl rfl
  have m2 := m1.set (s' := { s with space := sp, pc := 0 }) 13 (.int .i64 0) (by omega) rfl rfl
  have m3 := m2.set (s' := { s with space := sp, pc := 0, repl := false }) 15 (.bool false) (by omega) rfl rfl
  exact ⟨rfl, _, rfl, m3, (Gr.set _ _ _ _).trans ((Gr.set _ _ _ _).trans (Gr.set _ _ _ _))⟩

set_option maxRecDepth 100000 in
set_option maxHeartbeats 1000000 in
theorem beginWith_v {sp : ByteArray} (h : Mac w0 w mb sb db s) :
    Calls Tryz.prog 29 #[.pointer (some ⟨mb, 0, none⟩), .string sp] w fun r w' => r = .returned (.tuple #[]) ∧ Goes w0 mb sb db w s w' (s.p.beginWith sp) := by
  have c14 := h.b.at_ 14 _ rfl
  have f14 := h.b.free 14
  have m1 := h.set (s' := { s with steps := 0 }) 14 (.int .i64 0) (by omega) rfl rfl
  go_enter Tryz.func29, Tryz.ntmps29
  go_wp2_with fail
  refine (begin_v m1).mono ?_
  rintro r w1 ⟨rfl, s1, e1, m1, gr1⟩
  go_wp2_with fail
  go_end0
  exact ⟨rfl, s1, e1, m1, (Gr.set _ _ _ _).trans gr1⟩

set_option maxRecDepth 100000 in
set_option maxHeartbeats 1000000 in
theorem drop_v {cp : Value} (h : Mac w0 w mb sb db s) (hb : s.r.br = []) :
    Calls Tryz.prog 44 #[.pointer (some ⟨mb, 0, none⟩), cp] w fun r w' => r = .returned (.tuple #[]) ∧ Goes w0 mb sb db w s w' s.p.dropCycle := by
  go_enter Tryz.func44, Tryz.ntmps44
  go_wp2_with fail
  refine (dropCycle_v h hb).mono ?_
  rintro r w1 ⟨rfl, g1⟩
  go_wp2_with fail
  go_end0
  exact ⟨rfl, g1⟩

end
end Go.Proofs.YtonnimbcekhbgaaGreatDoor

/- The machine: its lines. -/
namespace Go.Proofs.YtonnimbcekhbgaaGreatDoor
open Go.RowKit

/-- Bytes as a string. -/
def ba (l : List UInt8) : ByteArray := ⟨l.toArray⟩
theorem ba_list (l : List UInt8) : (ba l).data.toList = l := by simp [ba]
theorem ba_size (l : List UInt8) : (ba l).size = l.length := by simp [ba, ByteArray.size]
theorem ba_of (s : ByteArray) : ba s.data.toList = s := by simp [ba]
theorem ba_ext {s : ByteArray} {l : List UInt8} (h : s.data.toList = l) : s = ba l := by rw [← h, ba_of]
theorem ba_app (a b : List UInt8) : ba a ++ ba b = ba (a ++ b) := ba_ext (by rw [ByteArray.data_append, Array.toList_append, ba_list, ba_list])
theorem ba_extract (l : List UInt8) (a b : Nat) : (ba l).extract a b = ba ((l.take b).drop a) := ba_ext (by
  rw [ByteArray.data_extract]
  simp [ba, List.drop_take])

theorem index_at : ∀ (L R : List UInt8), (10 : UInt8) ∉ L → Lib.indexByte (L ++ 10 :: R) 10 = (L.length : Int)
  | [], R, _ => by simp [Lib.indexByte]
  | b :: L, R, h => by
    have h1 : (b == (10 : UInt8)) = false := by rw [beq_eq_false_iff_ne]; exact fun e => h (by simp [e])
    have ih := index_at L R (fun q => h (by simp [q]))
    rw [List.cons_append, Lib.indexByte, h1, if_neg (by simp), ih]
    rw [if_neg (by rw [beq_iff_eq]; omega)]
    simp
theorem index_not : ∀ (L : List UInt8), (10 : UInt8) ∉ L → Lib.indexByte L 10 = -1
  | [], _ => rfl
  | b :: L, h => by
    have h1 : (b == (10 : UInt8)) = false := by rw [beq_eq_false_iff_ne]; exact fun e => h (by simp [e])
    have ih := index_not L (fun q => h (by simp [q]))
    rw [Lib.indexByte, h1, if_neg (by simp), ih]
    rfl

set_option maxRecDepth 100000 in
set_option maxHeartbeats 1000000 in
theorem cut0 {s : ByteArray} {i : Nat} (w : World) (h : Lib.indexByte s.data.toList 10 = (i : Int)) (hi : i < s.size) (hs : s.size ≤ 1000000) :
    Calls Tryz.prog 124 #[.string s, .string ⟨#[10]⟩] w fun r w' => r = .returned (.tuple #[.string (s.extract 0 i), .string (s.extract (i + 1) s.size), .bool true]) ∧ ∃ n, w' = w.drewN n := by
  have HX := hid (index_k s 10 w)
  have H := hid h
  clear h
  obtain ⟨i1, hi1⟩ : ∃ i1 : Nat, (i : Int) + 1 = (i1 : Int) := ⟨i + 1, by omega⟩
  have q1 := wrap_i64_nat i1 (by omega)
  have e1 : i1 = i + 1 := by omega
  have g1 : i1 ≤ s.size := by omega
  have g2 : i ≤ s.size := by omega
  rw [← e1]
  clear e1
  go_enter Tryz.func124, Tryz.ntmps124
  go_wp2_with fail
  refine HX.out.mono ?_
  rintro r w1 ⟨rfl, rfl⟩
  rw [H.out]
  go_wp2_with fail
  go_quiet (fail)
  go_wp2_with fail
  go_ret3
  exact ⟨rfl, _, rfl⟩
set_option maxRecDepth 100000 in
set_option maxHeartbeats 1000000 in
theorem cut1 {s : ByteArray} (w : World) (h : Lib.indexByte s.data.toList 10 = -1) :
    Calls Tryz.prog 124 #[.string s, .string ⟨#[10]⟩] w fun r w' => r = .returned (.tuple #[.string s, .string ⟨#[]⟩, .bool false]) ∧ w' = w := by
  have HX := hid (index_k s 10 w)
  have H := hid h
  clear h
  go_enter Tryz.func124, Tryz.ntmps124
  go_wp2_with fail
  refine HX.out.mono ?_
  rintro r w1 ⟨rfl, rfl⟩
  rw [H.out]
  go_wp2_with fail
  go_ret3
  exact ⟨rfl, rfl⟩

set_option maxRecDepth 100000 in
theorem cut_yes {L R : List UInt8} (w : World) (h : (10 : UInt8) ∉ L) (hs : L.length + R.length ≤ 100000) :
    Calls Tryz.prog 87 #[.string (ba (L ++ 10 :: R)), .string ⟨#[10]⟩] w fun r w' => r = .returned (.tuple #[.string (ba L), .string (ba R), .bool true]) ∧ Kp [] w w' := by
  have hsz : (ba (L ++ 10 :: R)).size = L.length + R.length + 1 := by rw [ba_size, List.length_append, List.length_cons]; omega
  have H := hid (cut0 (s := ba (L ++ 10 :: R)) (i := L.length) w (by rw [ba_list]; exact index_at L R h) (by omega) (by omega))
  have e1 : (ba (L ++ 10 :: R)).extract 0 L.length = ba L := by rw [ba_extract]; simp
  have e2 : (ba (L ++ 10 :: R)).extract (L.length + 1) (ba (L ++ 10 :: R)).size = ba R := by
    rw [ba_extract, hsz, List.take_of_length_le (by rw [List.length_append, List.length_cons]; omega), List.drop_append, List.drop_eq_nil_of_le (by omega)]
    simp
  have E := hid (And.intro e1 e2)
  clear e1 e2 hsz
  go_enter Tryz.func87, Tryz.ntmps87
  go_wp2_with fail
  refine H.out.mono ?_
  rintro r w1 ⟨rfl, n, rfl⟩
  rw [E.out.1, E.out.2]
  go_wp2_with fail
  go_ret3
  exact ⟨rfl, Kp.drewN _ _ _⟩
set_option maxRecDepth 100000 in
theorem cut_no {L : List UInt8} (w : World) (h : (10 : UInt8) ∉ L) :
    Calls Tryz.prog 87 #[.string (ba L), .string ⟨#[10]⟩] w fun r w' => r = .returned (.tuple #[.string (ba L), .string ⟨#[]⟩, .bool false]) ∧ Kp [] w w' := by
  have H := hid (cut1 (s := ba L) w (by rw [ba_list]; exact index_not L h))
  go_enter Tryz.func87, Tryz.ntmps87
  go_wp2_with fail
  refine H.out.mono ?_
  rintro r w1 ⟨rfl, rfl⟩
  go_wp2_with fail
  go_ret3
  exact ⟨rfl, Kp.refl _ _⟩

section
variable {w0 w w' w2 : World} {mb sb db lo hi : Nat} {s s' : Mst}

/-- A line is read: a whole one, where no one need know what comes behind it; or whatever is left, at the end. -/
def Pst.took (R : List UInt8) (p : Pst) : Pst := { p with left := ba R }

set_option maxRecDepth 100000 in
set_option maxHeartbeats 1000000 in
theorem next_line {L R : List UInt8} (h : Mac w0 w mb sb db s) (hl : s.left = ba (L ++ 10 :: R)) (hn : (10 : UInt8) ∉ L) (h1000 : L.length ≤ 1000) (hR : R.length ≤ 90000) (ha : s.ended = true ∨ (s.ended = false ∧ s.ahead = false)) :
    Calls Tryz.prog 97 #[.pointer (some ⟨mb, 2, none⟩)] w fun r w' => r = .returned (.tuple #[.string (ba L), .bool true]) ∧ Goes w0 mb sb db w s w' (s.p.took R) := by
  have c2 := h.b.at_ 2 _ rfl
  have f2 := h.b.free 2
  have c3 := h.b.at_ 3 _ rfl
  have c4 := h.b.at_ 4 _ rfl
  rw [hl] at c2
  have hsz : ¬ 1000 < (ba L).size := by rw [ba_size]; omega
  have hne : ((ba (L ++ 10 :: R)).toList == []) = false := by
    rw [ByteArray.toList_eq, ba_list]
    cases L <;> rfl
  go_enter Tryz.func97, Tryz.ntmps97
  go_wp2_with fail
  refine (cut_yes w hn (by omega)).mono ?_
  rintro r w1 ⟨rfl, k1⟩
  have m1 := h.keep k1
  have d2 := (k1.cell (p := ⟨mb, 2, none⟩) h.b.lt (by simp)).trans c2
  have d3 := (k1.cell (p := ⟨mb, 3, none⟩) h.b.lt (by simp)).trans c3
  have d4 := (k1.cell (p := ⟨mb, 4, none⟩) h.b.lt (by simp)).trans c4
  have e2 := (k1.frozen (p := ⟨mb, 2, none⟩) h.b.lt (by simp)).trans f2
  have m2 := m1.set (s' := { s with left := ba R }) 2 (.string (ba R)) (by omega) rfl rfl
  have gr : Gr mb db w s.r (w1.setCell ⟨mb, 2, none⟩ (.string (ba R))) s.r := (Gr.of_kp k1 (fun _ e => by cases e)).trans (Gr.set _ _ _ _)
  have HK := hid (clone_k (ba L) (w1.setCell ⟨mb, 2, none⟩ (.string (ba R))) (by rw [ba_size]; omega))
  rcases ha with ha | ⟨ha, hb⟩
  · rw [ha] at d4
    go_wp2_with fail
    refine HK.out.mono ?_
    rintro r w2 ⟨rfl, k2⟩
    go_wp2_with fail
    go_ret2
    exact ⟨rfl, _, rfl, m2.keep k2, gr.trans (Gr.of_kp k2 (fun _ e => by cases e))⟩
  · rw [ha] at d4
    rw [hb] at d3
    go_wp2_with fail
    refine HK.out.mono ?_
    rintro r w2 ⟨rfl, k2⟩
    go_wp2_with fail
    go_ret2
    exact ⟨rfl, _, rfl, m2.keep k2, gr.trans (Gr.of_kp k2 (fun _ e => by cases e))⟩

set_option maxRecDepth 100000 in
set_option maxHeartbeats 1000000 in
theorem next_none {L : List UInt8} (h : Mac w0 w mb sb db s) (hl : s.left = ba L) (hn : (10 : UInt8) ∉ L) (h1000 : L.length ≤ 1000) (ha : (s.ended = true ∧ L = []) ∨ (s.ended = false ∧ s.ahead = false)) :
    Calls Tryz.prog 97 #[.pointer (some ⟨mb, 2, none⟩)] w fun r w' => r = .returned (.tuple #[.string ⟨#[]⟩, .bool false]) ∧ Goes w0 mb sb db w s w' s.p := by
  have c2 := h.b.at_ 2 _ rfl
  have c3 := h.b.at_ 3 _ rfl
  have c4 := h.b.at_ 4 _ rfl
  rw [hl] at c2
  have hsz : ¬ 1000 < (ba L).size := by rw [ba_size]; omega
  go_enter Tryz.func97, Tryz.ntmps97
  go_wp2_with fail
  refine (cut_no w hn).mono ?_
  rintro r w1 ⟨rfl, k1⟩
  have m1 := h.keep k1
  have d2 := (k1.cell (p := ⟨mb, 2, none⟩) h.b.lt (by simp)).trans c2
  have d3 := (k1.cell (p := ⟨mb, 3, none⟩) h.b.lt (by simp)).trans c3
  have d4 := (k1.cell (p := ⟨mb, 4, none⟩) h.b.lt (by simp)).trans c4
  have gr : Gr mb db w s.r w1 s.r := Gr.of_kp k1 (fun _ e => by cases e)
  rcases ha with ⟨ha, hL⟩ | ⟨ha, hb⟩
  · rw [ha] at d4
    subst hL
    have hne : ((ba []).toList == []) = true := by rw [ByteArray.toList_eq, ba_list]; rfl
    go_wp2_with fail
    go_ret2
    exact ⟨rfl, _, rfl, m1, gr⟩
  · rw [ha] at d4
    rw [hb] at d3
    go_wp2_with fail
    go_ret2
    exact ⟨rfl, _, rfl, m1, gr⟩

/-- The machine reads the line that it wants. -/
def Pst.line (L R : List UInt8) (p : Pst) : Pst := ({ p with left := ba R, number := p.number + 1, wants := .nilFunc } : Pst).beginWith (ba L)

set_option maxRecDepth 100000 in
set_option maxHeartbeats 1000000 in
/-- 'supplied', where a line comes, and a cycle is to begin with it. -/
theorem supplied_yes {L R : List UInt8} (h : Mac w0 w mb sb db s) (hw : s.wants = bwV) (hnum : s.number ≤ 1000000)
    (hx : Calls Tryz.prog 97 #[.pointer (some ⟨mb, 2, none⟩)] w fun r w' => r = .returned (.tuple #[.string (ba L), .bool true]) ∧ Goes w0 mb sb db w s w' (s.p.took R)) :
    Calls Tryz.prog 62 #[.pointer (some ⟨mb, 0, none⟩)] w fun r w' => r = .returned (.bool true) ∧ Goes w0 mb sb db w s w' (s.p.line L R) := by
  have c12 := h.b.at_ 12 _ rfl
  rw [hw] at c12
  have HX := hid hx
  clear hx
  have hen : Enters 29 := fun _ _ _ => by kernel_rfl
  have hbo : ∀ w, (binOp BinOp.eql 69 bwV .nilFunc).run Tryz.prog w = .ok (.bool false) w := fun _ => by kernel_rfl
  unfold Enters at hen
  go_enter Tryz.func62, Tryz.ntmps62
  go_wp2_with fail
  refine HX.out.mono ?_
  rintro r w1 ⟨rfl, s1, e1, m1, g1⟩
  have d8 := m1.b.at_ 8 _ rfl
  have f8 := m1.b.free 8
  have d12 := m1.b.at_ 12 _ rfl
  have f12 := m1.b.free 12
  have hw1 : s1.wants = bwV := (congrArg Pst.wants e1).trans hw
  have hn1 : s1.number = s.number := congrArg Pst.number e1
  rw [hw1] at d12
  obtain ⟨n1, hn1'⟩ : ∃ n1 : Nat, n1 = s1.number + 1 := ⟨_, rfl⟩
  have wr := wrap_i64_succ s1.number n1 hn1' (by omega)
  have m2 := m1.set (s' := { s1 with number := n1 }) 8 (.int .i64 (n1 : Int)) (by omega) rfl rfl
  have m3 := m2.set (s' := { s1 with number := n1, wants := .nilFunc }) 12 .nilFunc (by omega) rfl rfl
  have M3 := hid m3
  have hst := run_store1 (P := Tryz.prog) (w := w1.setCell ⟨mb, 8, none⟩ (.int .i64 (n1 : Int))) (v := .nilFunc) (m2.b.at_ 12 _ rfl) (m2.b.free 12) rfl
  have HN := hid (hn1'.trans (by rw [hn1]))
  clear hn1 hn1' m2 m3
  go_wp2_with fail
  refine (beginWith_v (sp := ba L) M3.out).mono ?_
  rintro r w2 ⟨rfl, s2, e2, m2, g2⟩
  go_wp2_with fail
  go_ret
  refine ⟨rfl, s2, ?_, m2, g1.trans ((Gr.set _ _ _ _).trans ((Gr.set _ _ _ _).trans g2))⟩
  rw [e2]
  show ({ s1.p with number := n1, wants := .nilFunc } : Pst).beginWith (ba L) = _
  rw [e1, HN.out]
  rfl

set_option maxRecDepth 100000 in
set_option maxHeartbeats 1000000 in
theorem supplied_no (h : Mac w0 w mb sb db s) (hw : s.wants = bwV)
    (hx : Calls Tryz.prog 97 #[.pointer (some ⟨mb, 2, none⟩)] w fun r w' => r = .returned (.tuple #[.string ⟨#[]⟩, .bool false]) ∧ Goes w0 mb sb db w s w' s.p) :
    Calls Tryz.prog 62 #[.pointer (some ⟨mb, 0, none⟩)] w fun r w' => r = .returned (.bool false) ∧ Goes w0 mb sb db w s w' s.p := by
  have c12 := h.b.at_ 12 _ rfl
  rw [hw] at c12
  have HX := hid hx
  clear hx
  have hbo : ∀ w, (binOp BinOp.eql 69 bwV .nilFunc).run Tryz.prog w = .ok (.bool false) w := fun _ => by kernel_rfl
  go_enter Tryz.func62, Tryz.ntmps62
  go_wp2_with fail
  refine HX.out.mono ?_
  rintro r w1 ⟨rfl, g1⟩
  go_wp2_with fail
  go_ret
  exact ⟨rfl, g1⟩

set_option maxRecDepth 100000 in
set_option maxHeartbeats 1000000 in
theorem supplied_on (h : Mac w0 w mb sb db s) (hw : s.wants = .nilFunc) :
    Calls Tryz.prog 62 #[.pointer (some ⟨mb, 0, none⟩)] w fun r w' => r = .returned (.bool true) ∧ Goes w0 mb sb db w s w' s.p := by
  have c12 := h.b.at_ 12 _ rfl
  rw [hw] at c12
  have hbo : ∀ w, (binOp BinOp.eql 69 .nilFunc .nilFunc).run Tryz.prog w = .ok (.bool true) w := fun _ => by kernel_rfl
  go_enter Tryz.func62, Tryz.ntmps62
  go_wp2_with fail
  go_ret
  exact ⟨rfl, Goes.refl h⟩
end
end Go.Proofs.YtonnimbcekhbgaaGreatDoor
