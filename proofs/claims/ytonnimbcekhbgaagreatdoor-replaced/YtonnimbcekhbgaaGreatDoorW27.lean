/- What the claim needs of: FEToFF. -/
import Derived.Test.YtonnimbcekhbgaaGreatDoorW25
import Derived.Test.YtonnimbcekhbgaaGreatDoorW24
import Derived.Deep.LoopGhost
import Derived.Test.YtonnimbcekhbgaaGreatDoorW26

/- FEToFF. -/
namespace Go.Proofs.YtonnimbcekhbgaaGreatDoor
open Go.RowKit

section
variable {w0 w w' w2 : World} {mb sb db lo hi : Nat} {s s' : Mst} {σ : Sst}

abbrev repZ : List Value := [.string ⟨#[]⟩, .bool false, .int .i64 0, .int .i64 0]
theorem repV_one (o : List UInt8) (ov : Bool) (er st : Nat) : ∀ u ∈ repV o ov er st, u.oneCell' = true := fun u hu => by
  simp only [repV, List.mem_cons, List.not_mem_nil, or_false] at hu
  rcases hu with h | h | h | h <;> subst h <;> rfl

/-- A reply is stored in a new variable, and handed back. -/
theorem Goes.stored {p : Pst} {x : Nat} {vs : List Value} (hx : x = w.heap.size) (h : Mac w0 w mb sb db s) (g : Goes w0 mb sb db (w.alloc (.cells repZ.toArray 42)) s w' p) (hl : vs.length = 4) :
    Goes w0 mb sb db w s (w'.setCells x 0 vs) p ∧ Bl (w'.setCells x 0 vs) x vs := by
  obtain ⟨s1, e1, m1, g1⟩ := g
  have ka := Kp.alloc [] w (.cells repZ.toArray 42)
  have far := (h.far_new (Nat.le_refl w.heap.size)).2
  have B0 := Bl.alloc w repZ 42
  have B1 := g1.bl B0 far
  rw [← hx] at B1 B0 far
  have kx : Kp [x] w' (w'.setCells x 0 vs) := kp_setCells (by simp) _ _ _
  have fx : ∀ i, maB mb db s1.r i ≠ some x := fun i e => by
    rcases g1.from_ i x e with ⟨j, hj⟩ | q
    · exact far j hj
    · have := B0.lt; omega
  have gw : Gr mb db w s.r w' s1.r := (Gr.of_kp ka (fun _ e => by cases e)).trans g1
  refine ⟨⟨s1, e1, m1.other kx (fun y hy => ?_), ⟨Nat.le_trans gw.size kx.size, gw.from_, fun p hp hn => (kx.block p (Nat.lt_of_lt_of_le hp gw.size) (fun e => ?_)).trans (gw.same p hp hn)⟩⟩, B1.put (by simpa using hl)⟩
  · simp at hy
    rw [hy]
    exact ⟨by rw [hx]; exact h.r.kp.size, fx⟩
  · simp at e
    rw [e, hx] at hp
    omega

set_option maxRecDepth 100000 in
set_option maxHeartbeats 2000000 in
theorem feed_v {data : ByteArray} {n : Nat} {p' : Pst} (h : Mac w0 w mb sb db s) (ho : s.over = false) (hsz : s.left.size + data.size ≤ 1000000) (hr : RunP w0 mb sb db n ({ s.p with left := s.left ++ data } : Pst) p') (hl : p'.left.size ≤ 1000000) :
    Calls Tryz.prog 22 #[.pointer (some ⟨mb, 0, none⟩), .string data] w fun r w' => r = .returned (.agg (repV p'.out p'.over p'.err p'.status).toArray) ∧ Goes w0 mb sb db w s w' p'.replied := by
  have ka := Kp.alloc [] w (.cells repZ.toArray 42)
  have m1 := h.keep ka
  have c17 := m1.b.at_ 17 _ rfl
  rw [ho] at c17
  have c2 := m1.b.at_ 2 _ rfl
  have f2 := m1.b.free 2
  have q1 : ¬ 9223372036854775807 < s.left.size + data.size := by omega
  have m2 := m1.set (s' := { s with left := s.left ++ data }) 2 (.string (s.left ++ data)) (by omega) rfl rfl
  have HR := hid (run_v (s := { s with left := s.left ++ data }) m2 hr)
  go_enter Tryz.func22, Tryz.ntmps22
  go_wp2_with fail
  refine HR.out.mono ?_
  rintro r w1 ⟨rfl, s1, e1, n1, g1⟩
  have HP := hid (reply_v n1 (by rw [show s1.left = p'.left from congrArg Pst.left e1]; exact hl))
  have hg : Gr mb db (w.alloc (.cells repZ.toArray 42)) s.r w1 s1.r := (Gr.set _ _ _ _).trans g1
  clear HR
  go_wp2_with fail
  refine HP.out.mono ?_
  rintro r w2 ⟨rfl, s2, e2, n2, g2⟩
  have eo : s1.r.out = p'.out := congrArg Pst.out e1
  have ev : s1.over = p'.over := congrArg Pst.over e1
  have ee : s1.err = p'.err := congrArg Pst.err e1
  have es : s1.status = p'.status := congrArg Pst.status e1
  rw [eo, ev, ee, es]
  have GG := hid (Goes.stored (vs := repV p'.out p'.over p'.err p'.status) rfl h ⟨s2, e2.trans (by rw [e1]), n2, hg.trans g2⟩ rfl)
  have B2 := ((hg.trans g2).bl (Bl.alloc w repZ 42) (h.far_new (Nat.le_refl _)).2)
  have HTH : Hid (w2.there w.heap.size 0 4) := hid (fun j hj => by
    rw [Nat.zero_add]
    have : j < repZ.length := hj
    rw [B2.at_ j _ (List.getElem?_eq_getElem this)]
    exact ⟨rfl, B2.free j⟩)
  clear HP eo ev ee es e1 e2 B2
  go_wp2_with (refine wpList_store_mid rfl 42 (.tmp 4) (.tmp 23) rfl w.heap.size 0 (repV p'.out p'.over p'.err p'.status).toArray rfl rfl HTH.out Tryz.szReply (all_oneCell_toArray (repV_one _ _ _ _)) ?_)
  refine bodyPost_ret (res_row (p := 4) (ty := 42) (by rw [Tryz.results22]) _ _ w.heap.size 0 rfl _ _ GG.out.2.range Tryz.underlying42 rfl (by rw [Tryz.szReply]; rfl)) rfl ⟨rfl, GG.out.1⟩

set_option maxRecDepth 100000 in
set_option maxHeartbeats 2000000 in
theorem end_run {n : Nat} {p' : Pst} (h : Mac w0 w mb sb db s) (ho : s.over = false) (hr : RunP w0 mb sb db n ({ s.p with ended := true } : Pst) p') (hl : p'.left.size ≤ 1000000) :
    Calls Tryz.prog 23 #[.pointer (some ⟨mb, 0, none⟩)] w fun r w' => r = .returned (.agg (repV p'.out true p'.err p'.status).toArray) ∧ Goes w0 mb sb db w s w' ({ p' with over := true } : Pst).replied := by
  have ka := Kp.alloc [] w (.cells repZ.toArray 42)
  have m1 := h.keep ka
  have c17 := m1.b.at_ 17 _ rfl
  rw [ho] at c17
  have c4 := m1.b.at_ 4 _ rfl
  have f4 := m1.b.free 4
  have m2 := m1.set (s' := { s with ended := true }) 4 (.bool true) (by omega) rfl rfl
  have HR := hid (run_v (s := { s with ended := true }) m2 hr)
  go_enter Tryz.func23, Tryz.ntmps23
  go_wp2_with fail
  refine HR.out.mono ?_
  rintro r w1 ⟨rfl, s1, e1, n1, g1⟩
  have d17 := n1.b.at_ 17 _ rfl
  have f17 := n1.b.free 17
  have n1' := n1.set (s' := { s1 with over := true }) 17 (.bool true) (by omega) rfl rfl
  have HP := hid (reply_v n1' (by show s1.left.size ≤ _; rw [show s1.left = p'.left from congrArg Pst.left e1]; exact hl))
  have hg : Gr mb db (w.alloc (.cells repZ.toArray 42)) s.r (w1.setCell ⟨mb, 17, none⟩ (.bool true)) s1.r := (Gr.set _ _ _ _).trans (g1.trans (Gr.set _ _ _ _))
  clear HR
  go_wp2_with fail
  refine HP.out.mono ?_
  rintro r w2 ⟨rfl, s2, e2, n2, g2⟩
  have eo : s1.r.out = p'.out := congrArg Pst.out e1
  have ee : s1.err = p'.err := congrArg Pst.err e1
  have es : s1.status = p'.status := congrArg Pst.status e1
  show (match Ending.returned (Value.agg (repV s1.r.out true s1.err s1.status).toArray), w2 with | _, _ => _)
  rw [eo, ee, es]
  have GG := hid (Goes.stored (p := ({ p' with over := true } : Pst).replied) (vs := repV p'.out true p'.err p'.status) rfl h ⟨s2, e2.trans (by show ({ s1.p with over := true } : Pst).replied = _; rw [e1]), n2, hg.trans g2⟩ rfl)
  have B2 := ((hg.trans g2).bl (Bl.alloc w repZ 42) (h.far_new (Nat.le_refl _)).2)
  have HTH : Hid (w2.there w.heap.size 0 4) := hid (fun j hj => by
    rw [Nat.zero_add]
    have : j < repZ.length := hj
    rw [B2.at_ j _ (List.getElem?_eq_getElem this)]
    exact ⟨rfl, B2.free j⟩)
  clear HP eo ee es e1 e2 B2
  go_wp2_with (refine wpList_store_mid rfl 42 (.tmp 2) (.tmp 18) rfl w.heap.size 0 (repV p'.out true p'.err p'.status).toArray rfl rfl HTH.out Tryz.szReply (all_oneCell_toArray (repV_one _ _ _ _)) ?_)
  refine bodyPost_ret (res_row (p := 2) (ty := 42) (by rw [Tryz.results23]) _ _ w.heap.size 0 rfl _ _ GG.out.2.range Tryz.underlying42 rfl (by rw [Tryz.szReply]; rfl)) rfl ⟨rfl, GG.out.1⟩

set_option maxRecDepth 100000 in
set_option maxHeartbeats 2000000 in
theorem end_over (h : Mac w0 w mb sb db s) (ho : s.over = true) (hl : s.left.size ≤ 1000000) :
    Calls Tryz.prog 23 #[.pointer (some ⟨mb, 0, none⟩)] w fun r w' => r = .returned (.agg (repV s.r.out true s.err s.status).toArray) ∧ Goes w0 mb sb db w s w' s.p.replied := by
  have ka := Kp.alloc [] w (.cells repZ.toArray 42)
  have m1 := h.keep ka
  have c17 := m1.b.at_ 17 _ rfl
  rw [ho] at c17
  have HP := hid (reply_v m1 hl)
  rw [ho] at HP
  go_enter Tryz.func23, Tryz.ntmps23
  go_wp2_with fail
  refine HP.out.mono ?_
  rintro r w2 ⟨rfl, s2, e2, n2, g2⟩
  have GG := hid (Goes.stored (vs := repV s.r.out true s.err s.status) rfl h ⟨s2, e2, n2, g2⟩ rfl)
  have B2 := (g2.bl (Bl.alloc w repZ 42) (h.far_new (Nat.le_refl _)).2)
  have HTH : Hid (w2.there w.heap.size 0 4) := hid (fun j hj => by
    rw [Nat.zero_add]
    have : j < repZ.length := hj
    rw [B2.at_ j _ (List.getElem?_eq_getElem this)]
    exact ⟨rfl, B2.free j⟩)
  clear HP e2 B2
  go_wp2_with (refine wpList_store_mid rfl 42 (.tmp 2) (.tmp 18) rfl w.heap.size 0 (repV s.r.out true s.err s.status).toArray rfl rfl HTH.out Tryz.szReply (all_oneCell_toArray (repV_one _ _ _ _)) ?_)
  refine bodyPost_ret (res_row (p := 2) (ty := 42) (by rw [Tryz.results23]) _ _ w.heap.size 0 rfl _ _ GG.out.2.range Tryz.underlying42 rfl (by rw [Tryz.szReply]; rfl)) rfl ⟨rfl, GG.out.1⟩

theorem idle_no {eb : Nat} (h : w.cell? ⟨eb, 0, none⟩ = some (.pointer (some ⟨mb, 0, none⟩))) :
    Calls Tryz.prog 21 #[.pointer (some ⟨eb, 0, none⟩)] w fun r w' => r = .returned (.bool false) ∧ w' = w := by
  go_enter Tryz.func21, Tryz.ntmps21
  go_wp2_with fail
  go_ret
  exact ⟨rfl, rfl⟩

/-- What a reply of the machine's makes of the editor's. -/
theorem Bl.reply {x : Nat} (hx : x = w.heap.size) (h : Mac w0 w mb sb db s) (g : Gr mb db (w.alloc (.cells repZ.toArray 42)) s.r w' s'.r) : w'.there x 0 4 := by
  have B2 := g.bl (Bl.alloc w repZ 42) (h.far_new (Nat.le_refl _)).2
  subst hx
  intro j hj
  rw [Nat.zero_add]
  have : j < repZ.length := hj
  rw [B2.at_ j _ (List.getElem?_eq_getElem this)]
  exact ⟨rfl, B2.free j⟩

set_option maxRecDepth 100000 in
set_option maxHeartbeats 2000000 in
theorem efeed_v {data : ByteArray} {eb : Nat} {o : List UInt8} {ov : Bool} {er st : Nat} {p' : Pst} (h : Mac w0 w mb sb db s) (he : w.cell? ⟨eb, 0, none⟩ = some (.pointer (some ⟨mb, 0, none⟩)))
    (hf : ∀ wx, Mac w0 wx mb sb db s → Calls Tryz.prog 22 #[.pointer (some ⟨mb, 0, none⟩), .string data] wx fun r w' => r = .returned (.agg (repV o ov er st).toArray) ∧ Goes w0 mb sb db wx s w' p') :
    Calls Tryz.prog 17 #[.pointer (some ⟨eb, 0, none⟩), .string data] w fun r w' => r = .returned (.agg (repV o ov er st).toArray) ∧ Goes w0 mb sb db w s w' p' := by
  have ka := Kp.alloc [] w (.cells repZ.toArray 42)
  have m1 := h.keep ka
  have HF := hid (hf _ m1)
  have he1 : (w.alloc (.cells repZ.toArray 42)).cell? ⟨eb, 0, none⟩ = some (.pointer (some ⟨mb, 0, none⟩)) := (ka.cell (p := ⟨eb, 0, none⟩) (World.block_lt_of_cell? _ _ he) (by simp)).trans he
  have HID := hid (idle_no he1)
  clear hf
  go_enter Tryz.func17, Tryz.ntmps17
  go_wp2_with fail
  refine HID.out.mono ?_
  rintro r w1 ⟨rfl, rfl⟩
  go_wp2_with fail
  refine HF.out.mono ?_
  rintro r w2 ⟨rfl, s2, e2, n2, g2⟩
  have GG := hid (Goes.stored (vs := repV o ov er st) rfl h ⟨s2, e2, n2, g2⟩ rfl)
  have HTH := hid (Bl.reply rfl h g2)
  clear HF HID
  go_wp2_with (refine wpList_store_mid rfl 42 (.tmp 4) (.tmp 13) rfl w.heap.size 0 (repV o ov er st).toArray rfl rfl HTH.out Tryz.szReply (all_oneCell_toArray (repV_one _ _ _ _)) ?_)
  refine bodyPost_ret (res_row (p := 4) (ty := 42) (by rw [Tryz.results17]) _ _ w.heap.size 0 rfl _ _ GG.out.2.range Tryz.underlying42 rfl (by rw [Tryz.szReply]; rfl)) rfl ⟨rfl, GG.out.1⟩

end
end Go.Proofs.YtonnimbcekhbgaaGreatDoor

/- One text out of several: FB FF. -/
/- Need a script know what comes behind a line? Not where no command asks for the last line, nor for the next. -/
namespace Go.Proofs.YtonnimbcekhbgaaGreatDoor
open Go.RowKit

section
variable {w w' : World} {sb lo hi : Nat} {σ : Sst}

/-- A command that need not know it: no address, or a number; neither n nor N. -/
def NoAhead (w : World) (g o : Nat) : Prop :=
  (∃ A c, w.cell? ⟨g, o, none⟩ = some (.slice A 0 c) ∨ ∃ p, A = some ⟨p, 0, none⟩ ∧ w.cell? ⟨g, o, none⟩ = some (.slice (some ⟨p, 0, none⟩) 1 c) ∧ w.cell? ⟨p, 0, none⟩ = some (.int .i64 0)) ∧
  ∃ x : Nat, w.cell? ⟨g, o + 3, none⟩ = some (.int .u8 x) ∧ x ≠ 110 ∧ x ≠ 78

set_option maxRecDepth 100000 in
set_option maxHeartbeats 1000000 in
theorem aheadC_no {g o : Nat} (h : NoAhead w g o) :
    Calls Tryz.prog 59 #[.pointer (some ⟨g, o, none⟩)] w fun r w' => r = .returned (.bool false) ∧ w' = w := by
  obtain ⟨⟨A, c, h0⟩, x, h3, hx1, hx2⟩ := h
  have g1 : ((x : Int) == 110) = false := by rw [beq_eq_false_iff_ne]; omega
  have g2 : ((x : Int) == 78) = false := by rw [beq_eq_false_iff_ne]; omega
  rcases h0 with h0 | ⟨p, rfl, h0, hp⟩
  · go_enter Tryz.func59, Tryz.ntmps59
    go_wp2_with fail
    refine wp_loop_rounds 1 ?_
    rw [rounds_succ]
    go_wp2_with fail
    go_ret
    exact ⟨rfl, rfl⟩
  · go_enter Tryz.func59, Tryz.ntmps59
    go_wp2_with fail
    refine wp_loop_rounds 2 ?_
    rw [rounds_succ]
    go_wp2_with fail
    rw [rounds_succ]
    go_wp2_with fail
    go_ret
    exact ⟨rfl, rfl⟩

set_option maxRecDepth 100000 in
set_option maxHeartbeats 1000000 in
theorem ahead_no (hs : Scr lo hi w sb 0 σ) (hl : σ.cs.length ≤ 2000) (hc : ∀ i g cap, i < σ.cs.length → σ.vc = .slice (some ⟨g, 0, none⟩) σ.cs.length cap → NoAhead w g (i * 23)) :
    Calls Tryz.prog 28 #[.pointer (some ⟨sb, 0, none⟩)] w fun r w' => r = .returned (.bool false) ∧ w' = w := by
  obtain ⟨A, c, e, hA, hA2⟩ := own_form hs.o4
  have c1 := hs.c1
  rw [e] at c1
  have HC := hid hc
  have HE := hid e
  have HA := hid (And.intro hA hA2)
  clear hc e hA hA2
  obtain ⟨n, hn⟩ : ∃ n, n = σ.cs.length := ⟨_, rfl⟩
  rw [← hn] at c1 hl
  have HN := hid hn
  clear hn
  go_enter Tryz.func28, Tryz.ntmps28
  go_wp2_with fail
  go_loopw [9] (fun v wr => ∃ k : Nat, k ≤ n ∧ v = .int .i64 k ∧ wr = w) (fun v _ => 3000 - (intOf v).toNat)
  case atStart => exact ⟨0, by omega, rfl, rfl⟩
  case round =>
    obtain ⟨k, hk, rfl, rfl⟩ := hrel
    by_cases hkn : k < n
    · obtain ⟨g, rfl⟩ : ∃ g, A = some ⟨g, 0, none⟩ := by
        cases hA : A with
        | none => have := HA.out.1 hA; have := HN.out; omega
        | some ad =>
          obtain ⟨g, hg⟩ := HA.out.2 ad hA
          exact ⟨g, by rw [hg]⟩
      have HNA := hid (HC.out k g c (by rw [← HN.out]; exact hkn) HE.out)
      obtain ⟨k1, hk1⟩ : ∃ k1 : Nat, k1 = k + 1 := ⟨_, rfl⟩
      have wr := wrap_i64_succ k k1 hk1 (by omega)
      have HK1 := hid hk1
      clear hk1
      go_wp2_with fail
      refine (aheadC_no HNA.out).mono ?_
      rintro r w1 ⟨rfl, rfl⟩
      go_wp2_with fail
      go_round
      case rel => exact ⟨k1, by have := HK1.out; omega, by trivial, by trivial⟩
      case measure => have := HK1.out; simp [intOf]; omega
    · have hkk : k = n := by omega
      subst hkk
      go_wp2_with fail
      go_ret
      exact ⟨rfl, rfl⟩
end
end Go.Proofs.YtonnimbcekhbgaaGreatDoor

/- What a script does with an input, fed at once. -/
namespace Go.Proofs.YtonnimbcekhbgaaGreatDoor
open Go.RowKit

section
variable {w0 w w' w2 : World} {mb sb db lo hi : Nat} {s s' : Mst} {σ : Sst}

set_option maxRecDepth 100000 in
set_option maxHeartbeats 2000000 in
theorem start_v {ah : Bool} (hs : Scr lo hi w sb 0 σ) (hah : ∀ wx, Kp [] w wx → Calls Tryz.prog 28 #[.pointer (some ⟨sb, 0, none⟩)] wx fun r w' => r = .returned (.bool ah) ∧ Kp [] wx w') (hn : σ.ns.length ≤ 2000) (hrg : σ.ranges ≤ 2000) :
    Calls Tryz.prog 16 #[.pointer (some ⟨sb, 0, none⟩)] w fun r w' => ∃ eb mb db fb rb, r = .returned (.pointer (some ⟨eb, 0, none⟩)) ∧ Mac w w' mb sb db (mst0 ah fb σ.ns.length rb σ.ranges) ∧ Bl w' eb [.pointer (some ⟨mb, 0, none⟩)] ∧ ∀ i, maB mb db (mst0 ah fb σ.ns.length rb σ.ranges).r i ≠ some eb := by
  have HN := hid (new_v hs hah hn hrg)
  clear hah hs
  go_enter Tryz.func16, Tryz.ntmps16
  go_wp2_with fail
  refine HN.out.mono ?_
  rintro r w1 ⟨mb, db, fb, rb, rfl, m1⟩
  have M1 := hid m1
  clear m1 HN
  go_wp2_with fail
  go_ret
  exact ⟨w1.heap.size, mb, db, fb, rb, rfl, M1.out.keep (Kp.alloc [] w1 _), Bl.alloc w1 [.pointer (some ⟨mb, 0, none⟩)] _, (M1.out.far_new (Nat.le_refl _)).2⟩

/-- The state at first. -/
def pst0 (ah : Bool) (nf nr : Nat) : Pst := (mst0 ah 0 nf 0 nr).p
/-- What comes of an input: it is told so, with this status, and without an error. -/
def Acts (σ : Sst) (ah : Bool) (input : ByteArray) (o : List UInt8) (st : Nat) : Prop :=
  ∀ (w0 : World) (mb sb db lo hi : Nat), Scr lo hi w0 sb 0 σ → ∃ n p1, RunP w0 mb sb db n ({ pst0 ah σ.ns.length σ.ranges with left := input } : Pst) p1 ∧ p1.left.size ≤ 1000000 ∧ p1.err = 0 ∧
    ((p1.over = true ∧ p1.out = o ∧ p1.status = st) ∨ (p1.over = false ∧ ∃ m p2, RunP w0 mb sb db m ({ p1.replied with ended := true } : Pst) p2 ∧ p2.left.size ≤ 1000000 ∧ p2.err = 0 ∧ p2.status = st ∧ p1.out ++ p2.out = o))

/-- .. and that its commands need not know what comes behind a line. -/
def Knows (σ : Sst) (ah : Bool) : Prop := ∀ (lo hi : Nat) (wx : World) (sb : Nat), Scr lo hi wx sb 0 σ → Calls Tryz.prog 28 #[.pointer (some ⟨sb, 0, none⟩)] wx fun r w' => r = .returned (.bool ah) ∧ w' = wx

set_option maxRecDepth 100000 in
set_option maxHeartbeats 2000000 in
theorem eend_x {eb : Nat} {o : List UInt8} {ov : Bool} {er st : Nat} (h : Mac w0 w mb sb db s) (he : w.cell? ⟨eb, 0, none⟩ = some (.pointer (some ⟨mb, 0, none⟩)))
    (hf : ∀ wx, Mac w0 wx mb sb db s → Calls Tryz.prog 23 #[.pointer (some ⟨mb, 0, none⟩)] wx fun r w' => r = .returned (.agg (repV o ov er st).toArray) ∧ ∃ p', Goes w0 mb sb db wx s w' p') :
    Calls Tryz.prog 18 #[.pointer (some ⟨eb, 0, none⟩)] w fun r w' => r = .returned (.agg (repV o ov er st).toArray) ∧ ∃ p', Goes w0 mb sb db w s w' p' := by
  have ka := Kp.alloc [] w (.cells repZ.toArray 42)
  have m1 := h.keep ka
  have HF := hid (hf _ m1)
  have he1 : (w.alloc (.cells repZ.toArray 42)).cell? ⟨eb, 0, none⟩ = some (.pointer (some ⟨mb, 0, none⟩)) := (ka.cell (p := ⟨eb, 0, none⟩) (World.block_lt_of_cell? _ _ he) (by simp)).trans he
  have HID := hid (idle_no he1)
  clear hf
  go_enter Tryz.func18, Tryz.ntmps18
  go_wp2_with fail
  refine HID.out.mono ?_
  rintro r w1 ⟨rfl, rfl⟩
  go_wp2_with fail
  refine HF.out.mono ?_
  rintro r w2 ⟨rfl, p', s2, e2, n2, g2⟩
  have GG := hid (Goes.stored (vs := repV o ov er st) rfl h ⟨s2, e2, n2, g2⟩ rfl)
  have HTH := hid (Bl.reply rfl h g2)
  clear HF HID
  go_wp2_with (refine wpList_store_mid rfl 42 (.tmp 2) (.tmp 10) rfl w.heap.size 0 (repV o ov er st).toArray rfl rfl HTH.out Tryz.szReply (all_oneCell_toArray (repV_one _ _ _ _)) ?_)
  refine bodyPost_ret (res_row (p := 2) (ty := 42) (by rw [Tryz.results18]) _ _ w.heap.size 0 rfl _ _ GG.out.2.range Tryz.underlying42 rfl (by rw [Tryz.szReply]; rfl)) rfl ⟨rfl, p', GG.out.1⟩

set_option maxRecDepth 100000 in
set_option maxHeartbeats 8000000 in
theorem does_v {src input : ByteArray} {T : Sst → Sst → Prop} {ah : Bool} {o : List UInt8} {st : Nat} (h : Script src T) (hin : input.size ≤ 100000) (hol : o.length ≤ 1000000)
    (hT : ∀ σ σ', Fresh src σ → T σ σ' → σ'.ns.length ≤ 2000 ∧ σ'.ranges ≤ 2000 ∧ Knows σ' ah ∧ Acts σ' ah input o st) :
    Calls Tryz.prog 12 #[.string src, .string input, .string (ba o), .int .i64 st] w fun r w' => r = .returned (.bool true) ∧ Kp [] w w' := by
  have HC := hid (compile_v (w := w) h)
  have HT := hid hT
  clear h hT
  go_enter Tryz.func12, Tryz.ntmps12
  go_wp2_with fail
  refine HC.out.mono ?_
  rintro r w1 ⟨sb, rfl, σ, σ', fr, hTT, sc, k1⟩
  obtain ⟨hns, hrg, hkn, hact⟩ := HT.out σ σ' fr hTT
  have HST := hid (start_v sc (fun wx kx => (hkn _ _ wx sb (sc.keep kx (fun _ e => by cases e))).mono fun r w' ⟨hr, hw⟩ => ⟨hr, by rw [hw]; exact Kp.refl _ _⟩) hns hrg)
  have HACT := hid (hact w1)
  have SC := hid sc
  clear hkn hact HC HT fr hTT sc
  go_wp2_with fail
  refine HST.out.mono ?_
  rintro r w2 ⟨eb, mb, db, fb, rb, rfl, m2, be, far⟩
  obtain ⟨n, p1, hr1, hl1, he1, hh⟩ := HACT.out mb sb db _ _ SC.out
  have HF := hid (efeed_v (data := input) (o := p1.out) (ov := p1.over) (er := p1.err) (st := p1.status) (p' := p1.replied) m2 (be.at_ 0 _ rfl) (fun wx mx => feed_v mx rfl (by show (0 : Nat) + input.size ≤ _; omega) (by
    have : (⟨#[]⟩ : ByteArray) ++ input = input := by rw [← ba_of input]; exact ba_app [] _
    show RunP w1 mb sb db n ({ pst0 ah σ'.ns.length σ'.ranges with left := (⟨#[]⟩ : ByteArray) ++ input } : Pst) p1
    rw [this]; exact hr1) hl1))
  have HE1 := hid he1
  clear HST HACT hr1 he1
  go_wp2_with fail
  refine HF.out.mono ?_
  rintro r w3 ⟨rfl, s3, e3, m3, g3⟩
  clear HF
  have B4 := Bl.alloc w3 (repV p1.out p1.over p1.err p1.status) 42
  have k4 := Kp.alloc [] w3 (.cells (repV p1.out p1.over p1.err p1.status).toArray 42)
  have m4 := m3.keep k4
  have be4 := (g3.bl be far).keep k4 (by simp)
  have farx := (m3.far_new (Nat.le_refl w3.heap.size)).2
  obtain ⟨w4, hw4⟩ : ∃ w4, w4 = w3.alloc (.cells (repV p1.out p1.over p1.err p1.status).toArray 42) := ⟨_, rfl⟩
  obtain ⟨xa, hxa⟩ : ∃ xa, xa = w3.heap.size := ⟨_, rfl⟩
  have kk4 : Kp [] w w4 := by rw [hw4]; exact k1.trans (m3.r.kp.trans k4)
  /- how it ends -/
  have HEND : Hid (∃ o2 er st2, (∀ wx, Mac w1 wx mb sb db s3 → Calls Tryz.prog 23 #[.pointer (some ⟨mb, 0, none⟩)] wx fun r w' => r = .returned (.agg (repV o2 true er st2).toArray) ∧ ∃ p', Goes w1 mb sb db wx s3 w' p') ∧ er = 0 ∧ st2 = st ∧ p1.out ++ o2 = o) := hid (by
    rcases hh with ⟨h1, h2, h3⟩ | ⟨h1, m, p2, h2, h3, h4, h5, h6⟩
    · have eo : s3.over = true := (congrArg Pst.over e3).trans h1
      have eu : s3.r.out = [] := congrArg Pst.out e3
      have ee : s3.err = 0 := (congrArg Pst.err e3).trans HE1.out
      have es : s3.status = st := (congrArg Pst.status e3).trans h3
      have el : s3.left.size ≤ 1000000 := by
        have : s3.left = _ := congrArg Pst.left e3
        rw [this]
        show (if p1.over then (⟨#[]⟩ : ByteArray) else p1.left).size ≤ _
        rw [h1]
        show (0 : Nat) ≤ 1000000
        omega
      refine ⟨s3.r.out, s3.err, s3.status, fun wx mx => (end_over mx eo el).mono fun r w' ⟨hr, hg⟩ => ⟨hr, _, hg⟩, ee, es, by rw [eu, List.append_nil]; exact h2⟩
    · have eo : s3.over = false := (congrArg Pst.over e3).trans h1
      refine ⟨p2.out, p2.err, p2.status, fun wx mx => (end_run mx eo (by rw [e3]; exact h2) h3).mono fun r w' ⟨hr, hg⟩ => ⟨hr, _, hg⟩, h4, h5, h6⟩)
  clear e3
  go_wp2_with fail
  rw [← hw4, ← hxa]
  rw [← hw4, ← hxa] at B4
  rw [← hw4] at m4 be4 k4
  rw [← hxa] at farx
  clear hw4 hxa hh hl1
  obtain ⟨o2, er, st2, hend, her, hst, hcat⟩ := HEND.out
  have HE : Hid (Calls Tryz.prog 18 #[.pointer (some ⟨eb, 0, none⟩)] w4 fun r w' => r = .returned (.agg (repV o2 true er st2).toArray) ∧ ∃ p', Goes w1 mb sb db w4 s3 w' p') := hid (eend_x m4 (be4.at_ 0 _ rfl) hend)
  have g2 : ((er : Int) == 0) = true := by rw [her]; rfl
  have g3' : ((st2 : Int) == (st : Int)) = true := by rw [hst]; simp
  have g4 : ((p1.err : Int) == 0) = true := by rw [HE1.out]; rfl
  clear HEND hend her hst
  refine HE.out.mono ?_
  rintro r w5 ⟨rfl, p', s5, e5, m5, g5⟩
  have ba5 := g5.bl B4 farx
  have k45 : Kp [] w1 w5 := m5.r.kp
  have k6 := Kp.alloc [] w5 (.cells (repV o2 true er st2).toArray 42)
  have ba6 := ba5.keep k6 (by simp)
  have bb6 := Bl.alloc w5 (repV o2 true er st2) 42
  have a0 := ba6.at_ 0 _ rfl
  have a2 := ba6.at_ 2 _ rfl
  have hcmp : ((ba p1.out ++ ba o2).toList == (ba o).toList) = true := by rw [ba_app, hcat]; simp
  have hsz : ¬ 9223372036854775807 < (ba p1.out).size + (ba o2).size := by
    rw [ba_size, ba_size]
    have := congrArg List.length hcat
    rw [List.length_append] at this
    omega
  clear HE hcat
  have b0 := bb6.at_ 0 _ rfl
  have b1 := bb6.at_ 1 _ rfl
  have b2 := bb6.at_ 2 _ rfl
  have b3 := bb6.at_ 3 _ rfl
  go_wp2_with fail
  go_ret
  exact ⟨rfl, k1.trans (k45.trans k6)⟩
end
end Go.Proofs.YtonnimbcekhbgaaGreatDoor
