/- What the claim needs of: FEToFF FGToFJ FKToFL. -/
import Derived.Test.YtonnimbcekhbgaaGreatDoorX12
import Derived.Test.YtonnimbcekhbgaaGreatDoorX11
import Derived.Deep.LoopGhost
import Derived.Test.YtonnimbcekhbgaaGreatDoorX13
import Derived.Test.YtonnimbcekhbgaaGreatDoorX07

/- FEToFF. -/
namespace Go.Proofs.YtonnimbcekhbgaaGreatDoor
open Go.RowKit

section
variable {w0 w w' w2 : World} {mb sb db lo hi : Nat} {s s' : Mst} {σ : Sst}

abbrev repZ : List Value := [.string ⟨#[]⟩, .bool false, .int .i64 0, .int .i64 0]
theorem repV_one (o : List UInt8) (ov : Bool) (er st : Nat) : ∀ u ∈ repV o ov er st, u.oneCell' = true := fun u hu => by
  simp only [repV, List.mem_cons, List.not_mem_nil, or_false] at hu
  rcases hu with h | h | h | h <;> subst h <;> rfl

/-- A reply is stored in a new variable, and handed back. -/
theorem Goes.stored {p : Pst} {x : Nat} {vs : List Value} (hx : x = w.heap.size) (h : Mac w0 w mb sb db s) (g : Goes w0 mb sb db (w.alloc (.cells repZ.toArray 42)) s w' p) (hl : vs.length = 4) :
    Goes w0 mb sb db w s (w'.setCells x 0 vs) p ∧ Bl (w'.setCells x 0 vs) x vs := by
  obtain ⟨s1, e1, m1, g1⟩ := g
  have ka := Kp.alloc [] w (.cells repZ.toArray 42)
  have far := (h.far_new (Nat.le_refl w.heap.size)).2
  have B0 := Bl.alloc w repZ 42
  have B1 := g1.bl B0 far
  rw [← hx] at B1 B0 far
  have kx : Kp [x] w' (w'.setCells x 0 vs) := kp_setCells (by simp) _ _ _
  have fx : ∀ i, maB mb db s1.r i ≠ some x := fun i e => by
    rcases g1.from_ i x e with ⟨j, hj⟩ | q
    · exact far j hj
    · have := B0.lt; omega
  have gw : Gr mb db w s.r w' s1.r := (Gr.of_kp ka (fun _ e => by cases e)).trans g1
  refine ⟨⟨s1, e1, m1.other kx (fun y hy => ?_), ⟨Nat.le_trans gw.size kx.size, gw.from_, fun p hp hn => (kx.block p (Nat.lt_of_lt_of_le hp gw.size) (fun e => ?_)).trans (gw.same p hp hn)⟩⟩, B1.put (by simpa using hl)⟩
  · simp at hy
    rw [hy]
    exact ⟨by rw [hx]; exact h.r.kp.size, fx⟩
  · simp at e
    rw [e, hx] at hp
    omega

set_option maxRecDepth 100000 in
set_option maxHeartbeats 2000000 in
theorem feed_v {data : ByteArray} {n : Nat} {p' : Pst} (h : Mac w0 w mb sb db s) (ho : s.over = false) (hsz : s.left.size + data.size ≤ 1000000) (hr : RunP w0 mb sb db n ({ s.p with left := s.left ++ data } : Pst) p') (hl : p'.left.size ≤ 1000000) :
    Calls Tryz.prog 22 #[.pointer (some ⟨mb, 0, none⟩), .string data] w fun r w' => r = .returned (.agg (repV p'.out p'.over p'.err p'.status).toArray) ∧ Goes w0 mb sb db w s w' p'.replied := by
  have ka := Kp.alloc [] w (.cells repZ.toArray 42)
  have m1 := h.keep ka
  have c17 := m1.b.at_ 17 _ rfl
  rw [ho] at c17
  have c2 := m1.b.at_ 2 _ rfl
  have f2 := m1.b.free 2
  have q1 : ¬ 9223372036854775807 < s.left.size + data.size := by omega
  have m2 := m1.set (s' := { s with left := s.left ++ data }) 2 (.string (s.left ++ data)) (by omega) rfl rfl
  have HR := hid (run_v (s := { s with left := s.left ++ data }) m2 hr)
  go_enter Tryz.func22, Tryz.ntmps22
  go_wp2_with fail
  refine HR.out.mono ?_
  rintro r w1 ⟨rfl, s1, e1, n1, g1⟩
  have HP := hid (reply_v n1 (by rw [show s1.left = p'.left from congrArg Pst.left e1]; exact hl))
  have hg : Gr mb db (w.alloc (.cells repZ.toArray 42)) s.r w1 s1.r := (Gr.set _ _ _ _).trans g1
  clear HR
  go_wp2_with fail
  refine HP.out.mono ?_
  rintro r w2 ⟨rfl, s2, e2, n2, g2⟩
  have eo : s1.r.out = p'.out := congrArg Pst.out e1
  have ev : s1.over = p'.over := congrArg Pst.over e1
  have ee : s1.err = p'.err := congrArg Pst.err e1
  have es : s1.status = p'.status := congrArg Pst.status e1
  rw [eo, ev, ee, es]
  have GG := hid (Goes.stored (vs := repV p'.out p'.over p'.err p'.status) rfl h ⟨s2, e2.trans (by rw [e1]), n2, hg.trans g2⟩ rfl)
  have B2 := ((hg.trans g2).bl (Bl.alloc w repZ 42) (h.far_new (Nat.le_refl _)).2)
  have HTH : Hid (w2.there w.heap.size 0 4) := hid (fun j hj => by
    rw [Nat.zero_add]
    have : j < repZ.length := hj
    rw [B2.at_ j _ (List.getElem?_eq_getElem this)]
    exact ⟨rfl, B2.free j⟩)
  clear HP eo ev ee es e1 e2 B2
  go_wp2_with (refine wpList_store_mid rfl 42 (.tmp 4) (.tmp 23) rfl w.heap.size 0 (repV p'.out p'.over p'.err p'.status).toArray rfl rfl HTH.out Tryz.szReply (all_oneCell_toArray (repV_one _ _ _ _)) ?_)
  refine bodyPost_ret (res_row (p := 4) (ty := 42) (by rw [Tryz.results22]) _ _ w.heap.size 0 rfl _ _ GG.out.2.range Tryz.underlying42 rfl (by rw [Tryz.szReply]; rfl)) rfl ⟨rfl, GG.out.1⟩

set_option maxRecDepth 100000 in
set_option maxHeartbeats 2000000 in
theorem end_run {n : Nat} {p' : Pst} (h : Mac w0 w mb sb db s) (ho : s.over = false) (hr : RunP w0 mb sb db n ({ s.p with ended := true } : Pst) p') (hl : p'.left.size ≤ 1000000) :
    Calls Tryz.prog 23 #[.pointer (some ⟨mb, 0, none⟩)] w fun r w' => r = .returned (.agg (repV p'.out true p'.err p'.status).toArray) ∧ Goes w0 mb sb db w s w' ({ p' with over := true } : Pst).replied := by
  have ka := Kp.alloc [] w (.cells repZ.toArray 42)
  have m1 := h.keep ka
  have c17 := m1.b.at_ 17 _ rfl
  rw [ho] at c17
  have c4 := m1.b.at_ 4 _ rfl
  have f4 := m1.b.free 4
  have m2 := m1.set (s' := { s with ended := true }) 4 (.bool true) (by omega) rfl rfl
  have HR := hid (run_v (s := { s with ended := true }) m2 hr)
  go_enter Tryz.func23, Tryz.ntmps23
  go_wp2_with fail
  refine HR.out.mono ?_
  rintro r w1 ⟨rfl, s1, e1, n1, g1⟩
  have d17 := n1.b.at_ 17 _ rfl
  have f17 := n1.b.free 17
  have n1' := n1.set (s' := { s1 with over := true }) 17 (.bool true) (by omega) rfl rfl
  have HP := hid (reply_v n1' (by show s1.left.size ≤ _; rw [show s1.left = p'.left from congrArg Pst.left e1]; exact hl))
  have hg : Gr mb db (w.alloc (.cells repZ.toArray 42)) s.r (w1.setCell ⟨mb, 17, none⟩ (.bool true)) s1.r := (Gr.set _ _ _ _).trans (g1.trans (Gr.set _ _ _ _))
  clear HR
  go_wp2_with fail
  refine HP.out.mono ?_
  rintro r w2 ⟨rfl, s2, e2, n2, g2⟩
  have eo : s1.r.out = p'.out := congrArg Pst.out e1
  have ee : s1.err = p'.err := congrArg Pst.err e1
  have es : s1.status = p'.status := congrArg Pst.status e1
  show (match Ending.returned (Value.agg (repV s1.r.out true s1.err s1.status).toArray), w2 with | _, _ => _)
  rw [eo, ee, es]
  have GG := hid (Goes.stored (p := ({ p' with over := true } : Pst).replied) (vs := repV p'.out true p'.err p'.status) rfl h ⟨s2, e2.trans (by show ({ s1.p with over := true } : Pst).replied = _; rw [e1]), n2, hg.trans g2⟩ rfl)
  have B2 := ((hg.trans g2).bl (Bl.alloc w repZ 42) (h.far_new (Nat.le_refl _)).2)
  have HTH : Hid (w2.there w.heap.size 0 4) := hid (fun j hj => by
    rw [Nat.zero_add]
    have : j < repZ.length := hj
    rw [B2.at_ j _ (List.getElem?_eq_getElem this)]
    exact ⟨rfl, B2.free j⟩)
  clear HP eo ee es e1 e2 B2
  go_wp2_with (refine wpList_store_mid rfl 42 (.tmp 2) (.tmp 18) rfl w.heap.size 0 (repV p'.out true p'.err p'.status).toArray rfl rfl HTH.out Tryz.szReply (all_oneCell_toArray (repV_one _ _ _ _)) ?_)
  refine bodyPost_ret (res_row (p := 2) (ty := 42) (by rw [Tryz.results23]) _ _ w.heap.size 0 rfl _ _ GG.out.2.range Tryz.underlying42 rfl (by rw [Tryz.szReply]; rfl)) rfl ⟨rfl, GG.out.1⟩

set_option maxRecDepth 100000 in
set_option maxHeartbeats 2000000 in
theorem end_over (h : Mac w0 w mb sb db s) (ho : s.over = true) (hl : s.left.size ≤ 1000000) :
    Calls Tryz.prog 23 #[.pointer (some ⟨mb, 0, none⟩)] w fun r w' => r = .returned (.agg (repV s.r.out true s.err s.status).toArray) ∧ Goes w0 mb sb db w s w' s.p.replied := by
  have ka := Kp.alloc [] w (.cells repZ.toArray 42)
  have m1 := h.keep ka
  have c17 := m1.b.at_ 17 _ rfl
  rw [ho] at c17
  have HP := hid (reply_v m1 hl)
  rw [ho] at HP
  go_enter Tryz.func23, Tryz.ntmps23
  go_wp2_with fail
  refine HP.out.mono ?_
  rintro r w2 ⟨rfl, s2, e2, n2, g2⟩
  have GG := hid (Goes.stored (vs := repV s.r.out true s.err s.status) rfl h ⟨s2, e2, n2, g2⟩ rfl)
  have B2 := (g2.bl (Bl.alloc w repZ 42) (h.far_new (Nat.le_refl _)).2)
  have HTH : Hid (w2.there w.heap.size 0 4) := hid (fun j hj => by
    rw [Nat.zero_add]
    have : j < repZ.length := hj
    rw [B2.at_ j _ (List.getElem?_eq_getElem this)]
    exact ⟨rfl, B2.free j⟩)
  clear HP e2 B2
  go_wp2_with (refine wpList_store_mid rfl 42 (.tmp 2) (.tmp 18) rfl w.heap.size 0 (repV s.r.out true s.err s.status).toArray rfl rfl HTH.out Tryz.szReply (all_oneCell_toArray (repV_one _ _ _ _)) ?_)
  refine bodyPost_ret (res_row (p := 2) (ty := 42) (by rw [Tryz.results23]) _ _ w.heap.size 0 rfl _ _ GG.out.2.range Tryz.underlying42 rfl (by rw [Tryz.szReply]; rfl)) rfl ⟨rfl, GG.out.1⟩

theorem idle_no {eb : Nat} (h : w.cell? ⟨eb, 0, none⟩ = some (.pointer (some ⟨mb, 0, none⟩))) :
    Calls Tryz.prog 21 #[.pointer (some ⟨eb, 0, none⟩)] w fun r w' => r = .returned (.bool false) ∧ w' = w := by
  go_enter Tryz.func21, Tryz.ntmps21
  go_wp2_with fail
  go_ret
  exact ⟨rfl, rfl⟩

/-- What a reply of the machine's makes of the editor's. -/
theorem Bl.reply {x : Nat} (hx : x = w.heap.size) (h : Mac w0 w mb sb db s) (g : Gr mb db (w.alloc (.cells repZ.toArray 42)) s.r w' s'.r) : w'.there x 0 4 := by
  have B2 := g.bl (Bl.alloc w repZ 42) (h.far_new (Nat.le_refl _)).2
  subst hx
  intro j hj
  rw [Nat.zero_add]
  have : j < repZ.length := hj
  rw [B2.at_ j _ (List.getElem?_eq_getElem this)]
  exact ⟨rfl, B2.free j⟩

set_option maxRecDepth 100000 in
set_option maxHeartbeats 2000000 in
theorem efeed_v {data : ByteArray} {eb : Nat} {o : List UInt8} {ov : Bool} {er st : Nat} {p' : Pst} (h : Mac w0 w mb sb db s) (he : w.cell? ⟨eb, 0, none⟩ = some (.pointer (some ⟨mb, 0, none⟩)))
    (hf : ∀ wx, Mac w0 wx mb sb db s → Calls Tryz.prog 22 #[.pointer (some ⟨mb, 0, none⟩), .string data] wx fun r w' => r = .returned (.agg (repV o ov er st).toArray) ∧ Goes w0 mb sb db wx s w' p') :
    Calls Tryz.prog 17 #[.pointer (some ⟨eb, 0, none⟩), .string data] w fun r w' => r = .returned (.agg (repV o ov er st).toArray) ∧ Goes w0 mb sb db w s w' p' := by
  have ka := Kp.alloc [] w (.cells repZ.toArray 42)
  have m1 := h.keep ka
  have HF := hid (hf _ m1)
  have he1 : (w.alloc (.cells repZ.toArray 42)).cell? ⟨eb, 0, none⟩ = some (.pointer (some ⟨mb, 0, none⟩)) := (ka.cell (p := ⟨eb, 0, none⟩) (World.block_lt_of_cell? _ _ he) (by simp)).trans he
  have HID := hid (idle_no he1)
  clear hf
  go_enter Tryz.func17, Tryz.ntmps17
  go_wp2_with fail
  refine HID.out.mono ?_
  rintro r w1 ⟨rfl, rfl⟩
  go_wp2_with fail
  refine HF.out.mono ?_
  rintro r w2 ⟨rfl, s2, e2, n2, g2⟩
  have GG := hid (Goes.stored (vs := repV o ov er st) rfl h ⟨s2, e2, n2, g2⟩ rfl)
  have HTH := hid (Bl.reply rfl h g2)
  clear HF HID
  go_wp2_with (refine wpList_store_mid rfl 42 (.tmp 4) (.tmp 13) rfl w.heap.size 0 (repV o ov er st).toArray rfl rfl HTH.out Tryz.szReply (all_oneCell_toArray (repV_one _ _ _ _)) ?_)
  refine bodyPost_ret (res_row (p := 4) (ty := 42) (by rw [Tryz.results17]) _ _ w.heap.size 0 rfl _ _ GG.out.2.range Tryz.underlying42 rfl (by rw [Tryz.szReply]; rfl)) rfl ⟨rfl, GG.out.1⟩

end
end Go.Proofs.YtonnimbcekhbgaaGreatDoor

/- One text out of several: FB FF. -/
/- Need a script know what comes behind a line? Not where no command asks for the last line, nor for the next. -/
namespace Go.Proofs.YtonnimbcekhbgaaGreatDoor
open Go.RowKit

section
variable {w w' : World} {sb lo hi : Nat} {σ : Sst}

/-- A command that need not know it: no address, or a number; neither n nor N. -/
def NoAhead (w : World) (g o : Nat) : Prop :=
  (∃ A c, w.cell? ⟨g, o, none⟩ = some (.slice A 0 c) ∨ ∃ p, A = some ⟨p, 0, none⟩ ∧ w.cell? ⟨g, o, none⟩ = some (.slice (some ⟨p, 0, none⟩) 1 c) ∧ w.cell? ⟨p, 0, none⟩ = some (.int .i64 0)) ∧
  ∃ x : Nat, w.cell? ⟨g, o + 3, none⟩ = some (.int .u8 x) ∧ x ≠ 110 ∧ x ≠ 78

set_option maxRecDepth 100000 in
set_option maxHeartbeats 1000000 in
theorem aheadC_no {g o : Nat} (h : NoAhead w g o) :
    Calls Tryz.prog 59 #[.pointer (some ⟨g, o, none⟩)] w fun r w' => r = .returned (.bool false) ∧ w' = w := by
  obtain ⟨⟨A, c, h0⟩, x, h3, hx1, hx2⟩ := h
  have g1 : ((x : Int) == 110) = false := by rw [beq_eq_false_iff_ne]; omega
  have g2 : ((x : Int) == 78) = false := by rw [beq_eq_false_iff_ne]; omega
  rcases h0 with h0 | ⟨p, rfl, h0, hp⟩
  · go_enter Tryz.func59, Tryz.ntmps59
    go_wp2_with fail
    refine wp_loop_rounds 1 ?_
    rw [rounds_succ]
    go_wp2_with fail
    go_ret
    exact ⟨rfl, rfl⟩
  · go_enter Tryz.func59, Tryz.ntmps59
    go_wp2_with fail
    refine wp_loop_rounds 2 ?_
    rw [rounds_succ]
    go_wp2_with fail
    rw [rounds_succ]
    go_wp2_with fail
    go_ret
    exact ⟨rfl, rfl⟩

end
end Go.Proofs.YtonnimbcekhbgaaGreatDoor

/- What a script does with an input, fed at once. -/
namespace Go.Proofs.YtonnimbcekhbgaaGreatDoor
open Go.RowKit

section
variable {w0 w w' w2 : World} {mb sb db lo hi : Nat} {s s' : Mst} {σ : Sst}

set_option maxRecDepth 100000 in
set_option maxHeartbeats 2000000 in
theorem start_v {ah : Bool} (hs : Scr lo hi w sb 0 σ) (hah : ∀ wx, Kp [] w wx → Calls Tryz.prog 28 #[.pointer (some ⟨sb, 0, none⟩)] wx fun r w' => r = .returned (.bool ah) ∧ Kp [] wx w') (hn : σ.ns.length ≤ 2000) (hrg : σ.ranges ≤ 2000) :
    Calls Tryz.prog 16 #[.pointer (some ⟨sb, 0, none⟩)] w fun r w' => ∃ eb mb db fb rb, r = .returned (.pointer (some ⟨eb, 0, none⟩)) ∧ Mac w w' mb sb db (mst0 ah fb σ.ns.length rb σ.ranges) ∧ Bl w' eb [.pointer (some ⟨mb, 0, none⟩)] ∧ ∀ i, maB mb db (mst0 ah fb σ.ns.length rb σ.ranges).r i ≠ some eb := by
  have HN := hid (new_v hs hah hn hrg)
  clear hah hs
  go_enter Tryz.func16, Tryz.ntmps16
  go_wp2_with fail
  refine HN.out.mono ?_
  rintro r w1 ⟨mb, db, fb, rb, rfl, m1⟩
  have M1 := hid m1
  clear m1 HN
  go_wp2_with fail
  go_ret
  exact ⟨w1.heap.size, mb, db, fb, rb, rfl, M1.out.keep (Kp.alloc [] w1 _), Bl.alloc w1 [.pointer (some ⟨mb, 0, none⟩)] _, (M1.out.far_new (Nat.le_refl _)).2⟩

/-- The state at first. -/
def pst0 (ah : Bool) (nf nr : Nat) : Pst := (mst0 ah 0 nf 0 nr).p
/-- What comes of an input: it is told so, with this status, and without an error. -/
def Acts (σ : Sst) (ah : Bool) (input : ByteArray) (o : List UInt8) (st : Nat) : Prop :=
  ∀ (w0 : World) (mb sb db lo hi : Nat), Scr lo hi w0 sb 0 σ → ∃ n p1, RunP w0 mb sb db n ({ pst0 ah σ.ns.length σ.ranges with left := input } : Pst) p1 ∧ p1.left.size ≤ 1000000 ∧ p1.err = 0 ∧
    ((p1.over = true ∧ p1.out = o ∧ p1.status = st) ∨ (p1.over = false ∧ ∃ m p2, RunP w0 mb sb db m ({ p1.replied with ended := true } : Pst) p2 ∧ p2.left.size ≤ 1000000 ∧ p2.err = 0 ∧ p2.status = st ∧ p1.out ++ p2.out = o))

/-- .. and that its commands need not know what comes behind a line. -/
def Knows (σ : Sst) (ah : Bool) : Prop := ∀ (lo hi : Nat) (wx : World) (sb : Nat), Scr lo hi wx sb 0 σ → Calls Tryz.prog 28 #[.pointer (some ⟨sb, 0, none⟩)] wx fun r w' => r = .returned (.bool ah) ∧ w' = wx

set_option maxRecDepth 100000 in
set_option maxHeartbeats 2000000 in
theorem eend_x {eb : Nat} {o : List UInt8} {ov : Bool} {er st : Nat} (h : Mac w0 w mb sb db s) (he : w.cell? ⟨eb, 0, none⟩ = some (.pointer (some ⟨mb, 0, none⟩)))
    (hf : ∀ wx, Mac w0 wx mb sb db s → Calls Tryz.prog 23 #[.pointer (some ⟨mb, 0, none⟩)] wx fun r w' => r = .returned (.agg (repV o ov er st).toArray) ∧ ∃ p', Goes w0 mb sb db wx s w' p') :
    Calls Tryz.prog 18 #[.pointer (some ⟨eb, 0, none⟩)] w fun r w' => r = .returned (.agg (repV o ov er st).toArray) ∧ ∃ p', Goes w0 mb sb db w s w' p' := by
  have ka := Kp.alloc [] w (.cells repZ.toArray 42)
  have m1 := h.keep ka
  have HF := hid (hf _ m1)
  have he1 : (w.alloc (.cells repZ.toArray 42)).cell? ⟨eb, 0, none⟩ = some (.pointer (some ⟨mb, 0, none⟩)) := (ka.cell (p := ⟨eb, 0, none⟩) (World.block_lt_of_cell? _ _ he) (by simp)).trans he
  have HID := hid (idle_no he1)
  clear hf
  go_enter Tryz.func18, Tryz.ntmps18
  go_wp2_with fail
  refine HID.out.mono ?_
  rintro r w1 ⟨rfl, rfl⟩
  go_wp2_with fail
  refine HF.out.mono ?_
  rintro r w2 ⟨rfl, p', s2, e2, n2, g2⟩
  have GG := hid (Goes.stored (vs := repV o ov er st) rfl h ⟨s2, e2, n2, g2⟩ rfl)
  have HTH := hid (Bl.reply rfl h g2)
  clear HF HID
  go_wp2_with (refine wpList_store_mid rfl 42 (.tmp 2) (.tmp 10) rfl w.heap.size 0 (repV o ov er st).toArray rfl rfl HTH.out Tryz.szReply (all_oneCell_toArray (repV_one _ _ _ _)) ?_)
  refine bodyPost_ret (res_row (p := 2) (ty := 42) (by rw [Tryz.results18]) _ _ w.heap.size 0 rfl _ _ GG.out.2.range Tryz.underlying42 rfl (by rw [Tryz.szReply]; rfl)) rfl ⟨rfl, p', GG.out.1⟩

end
end Go.Proofs.YtonnimbcekhbgaaGreatDoor

/- FGToFJ. -/
namespace Go.Proofs.YtonnimbcekhbgaaGreatDoor
open Go.RowKit

section
variable {w0 w w' : World} {mb sb db lo hi : Nat} {s s' : Mst} {σ : Sst}

/-- It looks at one command. -/
def Look (w0 : World) (mb sb db : Nat) (p p' : Pst) : Prop := ∀ w s, Mac w0 w mb sb db s → s.p = p → Calls Tryz.prog 63 #[.pointer (some ⟨mb, 0, none⟩)] w fun r w' => r = .returned (.tuple #[]) ∧ Goes w0 mb sb db w s w' p'
/-- It looks at commands, one behind the other. -/
inductive Looks (w0 : World) (mb sb db : Nat) : Pst → Pst → Prop
  | last {p p' : Pst} (h : Look w0 mb sb db p p') : Looks w0 mb sb db p p'
  | more {p q p' : Pst} (h : Look w0 mb sb db p q) (ho : q.over = false) (hw : q.wants = .nilFunc) (hr : Looks w0 mb sb db q p') : Looks w0 mb sb db p p'

def Sup (w0 : World) (mb sb db : Nat) (p p1 : Pst) : Prop := ∀ w s, Mac w0 w mb sb db s → s.p = p → Calls Tryz.prog 62 #[.pointer (some ⟨mb, 0, none⟩)] w fun r w' => r = .returned (.bool true) ∧ Goes w0 mb sb db w s w' p1

theorem RunP.cycle {p p1 p' p2 : Pst} {n : Nat} (ho : p.over = false) (hs : Sup w0 mb sb db p p1) (hl : Looks w0 mb sb db p1 p') (hr : RunP w0 mb sb db n p' p2) : ∃ m, RunP w0 mb sb db m p p2 := by
  induction hl generalizing p with
  | last h => exact ⟨_, .round ho hs h hr⟩
  | more h ho' hw _ ih =>
    obtain ⟨m, hm⟩ := ih ho' (fun w s hM hp => by
      have := supplied_on hM (by rw [show s.wants = _ from congrArg Pst.wants hp]; exact hw)
      rw [hp] at this
      exact this) hr
    exact ⟨_, .round ho hs h hm⟩

/-- What was written: so many files, no more than is counted. -/
structure Fbs (F : Nat) (p : Pst) : Prop where
  len : p.fb.length = F
  le : ∀ (i : Nat) (bs : List UInt8), p.fb[i]? = some bs → bs.length ≤ p.count
theorem Fbs.up {F : Nat} {p p' : Pst} (h : Fbs F p) (e : p'.fb = p.fb) (hc : p.count ≤ p'.count) : Fbs F p' := ⟨by rw [e]; exact h.len, fun i bs hb => Nat.le_trans (h.le i bs (by rw [← e]; exact hb)) hc⟩

/-- Between two cycles. -/
structure Btw (F : Nat) (p : Pst) : Prop where
  wants : p.wants = bwV
  over : p.over = false
  err : p.err = 0
  status : p.status = 0
  ahead : p.ahead = false
  br : p.br = []
  out : p.out.length ≤ p.count
  fb : Fbs F p

/-- At the beginning of a cycle. -/
structure Beg (F : Nat) (p : Pst) (k : Nat) (L : List UInt8) : Prop where
  wants : p.wants = .nilFunc
  over : p.over = false
  err : p.err = 0
  status : p.status = 0
  ahead : p.ahead = false
  br : p.br = []
  out : p.out.length ≤ p.count
  pc : p.pc = 0
  steps : p.steps = 0
  number : p.number = k
  space : p.space = ba L
  fb : Fbs F p
/-- What a cycle comes to: so much is told, so much is counted. -/
structure Cyc (F : Nat) (p p' : Pst) (t : List UInt8) (c : Nat) : Prop where
  btw : Btw F p'
  left : p'.left = p.left
  ended : p'.ended = p.ended
  number : p'.number = p.number
  out : p'.out = p.out ++ t
  count : p'.count = p.count + c

/-- What a script does with a line: it tells so, counts so. -/
def Does (σ : Sst) (tl : Nat → List UInt8 → List UInt8) (ct : Nat → List UInt8 → Nat) : Prop :=
  ∀ (w0 : World) (mb sb db lo hi : Nat), Scr lo hi w0 sb 0 σ → ∀ p k L, Beg σ.ns.length p k L → k < 100 → L.length ≤ 1000 → p.count + ct k L ≤ 190000 → ∃ p', Looks w0 mb sb db p p' ∧ Cyc σ.ns.length p p' (tl k L) (ct k L)

/-- Lines, each with its newline. -/
def wh (ls : List (List UInt8)) : List UInt8 := ls.flatMap (fun l => l ++ [10])
/-- What is told of lines, from the number k on. -/
def told (tl : Nat → List UInt8 → List UInt8) : Nat → List (List UInt8) → List UInt8
  | _, [] => []
  | k, l :: ls => tl k l ++ told tl (k + 1) ls
def cnt (ct : Nat → List UInt8 → Nat) : Nat → List (List UInt8) → Nat
  | _, [] => 0
  | k, l :: ls => ct k l + cnt ct (k + 1) ls

end
end Go.Proofs.YtonnimbcekhbgaaGreatDoor

/- What some scripts do with lines. -/
namespace Go.Proofs.YtonnimbcekhbgaaGreatDoor
open Go.RowKit

section
variable {w0 w w' : World} {mb sb db lo hi : Nat} {s s' : Mst} {σ : Sst}

theorem room_of {p : Pst} {t : ByteArray} (hp : s.p = p) (h1 : p.count + t.size + 1 ≤ 200000) (h2 : p.out.length ≤ p.count) (h3 : p.br = []) : Room s t :=
  ⟨by rw [show s.count = p.count from congrArg Pst.count hp]; exact h1, by rw [show s.r.out = p.out from congrArg Pst.out hp, show s.count = p.count from congrArg Pst.count hp]; exact h2, (congrArg Pst.br hp).trans h3⟩

theorem look_ends {p : Pst} (hs : Scr lo hi w0 sb 0 σ) (hpc : p.pc = σ.cs.length) (h1 : p.count + p.space.size + 1 ≤ 200000) (h2 : p.out.length ≤ p.count) (h3 : p.br = []) : Look w0 mb sb db p (p.endCycle σ.quiet) := fun w s hM hp => by
  have e : s.space = p.space := congrArg Pst.space hp
  have := look_end hM hs (by rw [e]; exact room_of hp h1 h2 h3) (by rw [show s.pc = p.pc from congrArg Pst.pc hp]; exact hpc)
  rw [hp] at this
  exact this

end
end Go.Proofs.YtonnimbcekhbgaaGreatDoor

/- What some scripts do with lines: nothing, p, =, d. -/
namespace Go.Proofs.YtonnimbcekhbgaaGreatDoor
open Go.RowKit

section
variable {w0 w w' : World} {mb sb db lo hi : Nat} {s s' : Mst} {σ : Sst}

/-- A command without an address. -/
structure Plain (c : List Value) (x : Nat) : Prop where
  c3 : c[3]? = some (.int .u8 x)
  c2 : c[2]? = some (.bool false)
  c0 : ∃ A ca, c[0]? = some (.slice A 0 ca)

def Pst.on (p : Pst) : Pst := { p with pc := p.pc + 1, steps := p.steps + 1 }

theorem enters_d : Enters 44 := by intro p q w; simp [go_sem]
theorem deed_d : Instr.findNow (.int .u8) (.int .u8 ((100 : Nat) : Int)) (tabE 0 deedsL) 0 = some (some (8, .func (.func 44) #[] #[])) := by kernel_rfl
end
end Go.Proofs.YtonnimbcekhbgaaGreatDoor

/- What q with a number does. -/
namespace Go.Proofs.YtonnimbcekhbgaaGreatDoor
open Go.RowKit

section
variable {w0 w w' : World} {mb sb db lo hi : Nat} {s s' : Mst} {σ : Sst}

/-- A command with a number for its address. -/
structure AtNum (σ : Sst) (c : List Value) (x n : Nat) : Prop where
  c3 : c[3]? = some (.int .u8 x)
  c2 : c[2]? = some (.bool false)
  c0 : ∃ p ca cells, c[0]? = some (.slice (some ⟨p, 0, none⟩) 1 ca) ∧ (p, Obj.cells cells 120 (0, 0)) ∈ σ.fs ∧ cells[0]? = some (.int .i64 0) ∧ cells[1]? = some (.int .i64 n)

theorem AtNum.of {c : List Value} {x n : Nat} {v : Value} (h3 : c[3]? = some (.int .u8 x)) (h2 : c[2]? = some (.bool false)) (h0 : c[0]? = some v) (hv : AdrsV σ.fs v [.num n]) : AtNum σ c x n := by
  refine ⟨h3, h2, ?_⟩
  rcases hv with ⟨q, _⟩ | ⟨p, ca, cells, rfl, hm, hc⟩
  · cases q
  · obtain ⟨va, rfl, hc⟩ := hc 0 _ rfl
    exact ⟨p, ca, cells, h0, hm, hc 0 _ rfl, hc 1 _ rfl⟩

theorem cells_at {p i : Nat} {cells : Array Value} {t : TypeId} {v : Value} (h : w.heap[p]? = some (Obj.cells cells t (0, 0))) (hv : cells[i]? = some v) : w.cell? ⟨p, i, none⟩ = some v := by
  simp [World.cell?, h, hv]

theorem wh_cons (a : List UInt8) (b : List (List UInt8)) : wh (a :: b) = a ++ 10 :: wh b := by simp [wh]

end
end Go.Proofs.YtonnimbcekhbgaaGreatDoor

/- FKToFL. -/
namespace Go.Proofs.YtonnimbcekhbgaaGreatDoor
open Go.RowKit

section
variable {w0 w w1 w' : World} {mb sb db lo hi : Nat} {s s' : Mst} {σ : Sst}

end
end Go.Proofs.YtonnimbcekhbgaaGreatDoor

/- The script's reader: a file's name. -/
namespace Go.Proofs.YtonnimbcekhbgaaGreatDoor
open Go.RowKit Go.MapKept

section
variable {P : Program} {w : World} {t k e : TypeId} {b c : Nat} {es : Array MapEntry} {x : ByteArray} {v : Value}
theorem run_putS (ht : P.underlying t = some (.map k e)) (hk : P.underlying k = some .string) (hb : w.heap[b]? = some (.map es c)) (hf : Instr.findNow .string (.string x) es.toList 0 = some none) :
    (Instr.mapUpdate t (.map (some b)) (.string x) v).run P w = .ok () (ChangeMaps.setBlock w b (.map (es.push ⟨.string x, v, c⟩) (c + 1))) := by
  have hkey : IsKey .string (.string x) := by simp [IsKey]
  simp [Instr.mapUpdate, run_underlying ht, MapKept.run_getObj_map hb, run_checkKey hk hkey, run_findKey hk hf, MapKept.run_setObj_map _ hb, Result.andThen, ChangeMaps.setBlock]
theorem run_lookS (ht : P.underlying t = some (.map k e)) (hk : P.underlying k = some .string) {z : Value} (hz : (zeroValue e).run P w = .ok z w) (hb : w.heap[b]? = some (.map es c)) (hf : Instr.findNow .string (.string x) es.toList 0 = some none) :
    (Instr.lookup t (.map (some b)) (.string x) true).run P w = .ok (.tuple #[z, .bool false]) w := by
  have hkey : IsKey .string (.string x) := by simp [IsKey]
  simp [Instr.lookup, run_underlying ht, MapKept.run_getObj_map hb, MapKept.run_checkKey hk hkey, MapKept.run_findKey hk hf, Result.andThen, hz]
theorem run_lookS2 (ht : P.underlying t = some (.map k e)) (hk : P.underlying k = some .string) {i : Nat} (hb : w.heap[b]? = some (.map es c)) (hf : Instr.findNow .string (.string x) es.toList 0 = some (some (i, v))) :
    (Instr.lookup t (.map (some b)) (.string x) true).run P w = .ok (.tuple #[v, .bool true]) w := by
  have hkey : IsKey .string (.string x) := by simp [IsKey]
  simp [Instr.lookup, run_underlying ht, MapKept.run_getObj_map hb, MapKept.run_checkKey hk hkey, MapKept.run_findKey hk hf, Result.andThen]
end

theorem strE_app : ∀ (l : List (ByteArray × Nat)) (c : Nat) (x : ByteArray) (n : Nat), strE c (l ++ [(x, n)]) = strE c l ++ [⟨.string x, .int .i64 n, c + l.length⟩]
  | [], c, x, n => by simp [strE]
  | (y, m) :: l, c, x, n => by
    rw [List.cons_append, strE, strE, strE_app l (c + 1) x n, List.cons_append]
    simp; omega
theorem strO_app (l : List (ByteArray × Nat)) (x : ByteArray) (n : Nat) : strO (l ++ [(x, n)]) = .map ((strE 0 l).toArray.push ⟨.string x, .int .i64 n, l.length⟩) (l.length + 1) := by
  simp [strO, strE_app]

section
variable {w0 w w1 w2 : World} {b k g cap : Nat} {src : ByteArray} {σ : Sst} {cv : List Value} {x : ByteArray}

theorem zero_int (w : World) : (zeroValue 3).run Tryz.prog w = .ok (.int .i64 0) w := by simp [go_sem]
theorem Tryz.infoStr : (Tryz.prog.info? 9).map (fun i => (i.zero, i.size, i.bytes)) = some (some (.string ⟨#[]⟩), 1, 16) := by kernel_rfl

end
end Go.Proofs.YtonnimbcekhbgaaGreatDoor
