/- The machine is fed, and ended. -/
import Derived.Test.YtonnimbcekhbgaaGreatDoorFA
namespace Go.Proofs.YtonnimbcekhbgaaGreatDoor
open Go.RowKit

section
variable {w0 w w' w2 : World} {mb sb db lo hi : Nat} {s s' : Mst} {σ : Sst}

abbrev repZ : List Value := [.string ⟨#[]⟩, .bool false, .int .i64 0, .int .i64 0]
theorem repV_one (o : List UInt8) (ov : Bool) (er st : Nat) : ∀ u ∈ repV o ov er st, u.oneCell' = true := fun u hu => by
  simp only [repV, List.mem_cons, List.not_mem_nil, or_false] at hu
  rcases hu with h | h | h | h <;> subst h <;> rfl

/-- A reply is stored in a new variable, and handed back. -/
theorem Goes.stored {p : Pst} {x : Nat} {vs : List Value} (hx : x = w.heap.size) (h : Mac w0 w mb sb db s) (g : Goes w0 mb sb db (w.alloc (.cells repZ.toArray 42)) s w' p) (hl : vs.length = 4) :
    Goes w0 mb sb db w s (w'.setCells x 0 vs) p ∧ Bl (w'.setCells x 0 vs) x vs := by
  obtain ⟨s1, e1, m1, g1⟩ := g
  have ka := Kp.alloc [] w (.cells repZ.toArray 42)
  have far := (h.far_new (Nat.le_refl w.heap.size)).2
  have B0 := Bl.alloc w repZ 42
  have B1 := g1.bl B0 far
  rw [← hx] at B1 B0 far
  have kx : Kp [x] w' (w'.setCells x 0 vs) := kp_setCells (by simp) _ _ _
  have fx : ∀ i, maB mb db s1.r i ≠ some x := fun i e => by
    rcases g1.from_ i x e with ⟨j, hj⟩ | q
    · exact far j hj
    · have := B0.lt; omega
  have gw : Gr mb db w s.r w' s1.r := (Gr.of_kp ka (fun _ e => by cases e)).trans g1
  refine ⟨⟨s1, e1, m1.other kx (fun y hy => ?_), ⟨Nat.le_trans gw.size kx.size, gw.from_, fun p hp hn => (kx.block p (Nat.lt_of_lt_of_le hp gw.size) (fun e => ?_)).trans (gw.same p hp hn)⟩⟩, B1.put (by simpa using hl)⟩
  · simp at hy
    rw [hy]
    exact ⟨by rw [hx]; exact h.r.kp.size, fx⟩
  · simp at e
    rw [e, hx] at hp
    omega

set_option maxRecDepth 100000 in
set_option maxHeartbeats 2000000 in
theorem feed_v {data : ByteArray} {n : Nat} {p' : Pst} (h : Mac w0 w mb sb db s) (ho : s.over = false) (hsz : s.left.size + data.size ≤ 1000000) (hr : RunP w0 mb sb db n ({ s.p with left := s.left ++ data } : Pst) p') (hl : p'.left.size ≤ 1000000) :
    Calls Tryz.prog 22 #[.pointer (some ⟨mb, 0, none⟩), .string data] w fun r w' => r = .returned (.agg (repV p'.out p'.over p'.err p'.status).toArray) ∧ Goes w0 mb sb db w s w' p'.replied := by
  have ka := Kp.alloc [] w (.cells repZ.toArray 42)
  have m1 := h.keep ka
  have c17 := m1.b.at_ 17 _ rfl
  rw [ho] at c17
  have c2 := m1.b.at_ 2 _ rfl
  have f2 := m1.b.free 2
  have q1 : ¬ 9223372036854775807 < s.left.size + data.size := by omega
  have m2 := m1.set (s' := { s with left := s.left ++ data }) 2 (.string (s.left ++ data)) (by omega) rfl rfl
  have HR := hid (run_v (s := { s with left := s.left ++ data }) m2 hr)
  go_enter Tryz.func22, Tryz.ntmps22
  go_wp2_with fail
  refine HR.out.mono ?_
  rintro r w1 ⟨rfl, s1, e1, n1, g1⟩
  have HP := hid (reply_v n1 (by rw [show s1.left = p'.left from congrArg Pst.left e1]; exact hl))
  have hg : Gr mb db (w.alloc (.cells repZ.toArray 42)) s.r w1 s1.r := (Gr.set _ _ _ _).trans g1
  clear HR
  go_wp2_with fail
  refine HP.out.mono ?_
  rintro r w2 ⟨rfl, s2, e2, n2, g2⟩
  have eo : s1.r.out = p'.out := congrArg Pst.out e1
  have ev : s1.over = p'.over := congrArg Pst.over e1
  have ee : s1.err = p'.err := congrArg Pst.err e1
  have es : s1.status = p'.status := congrArg Pst.status e1
  rw [eo, ev, ee, es]
  have GG := hid (Goes.stored (vs := repV p'.out p'.over p'.err p'.status) rfl h ⟨s2, e2.trans (by rw [e1]), n2, hg.trans g2⟩ rfl)
  have B2 := ((hg.trans g2).bl (Bl.alloc w repZ 42) (h.far_new (Nat.le_refl _)).2)
  have HTH : Hid (w2.there w.heap.size 0 4) := hid (fun j hj => by
    rw [Nat.zero_add]
    have : j < repZ.length := hj
    rw [B2.at_ j _ (List.getElem?_eq_getElem this)]
    exact ⟨rfl, B2.free j⟩)
  clear HP eo ev ee es e1 e2 B2
  go_wp2_with (refine wpList_store_mid rfl 42 (.tmp 4) (.tmp 23) rfl w.heap.size 0 (repV p'.out p'.over p'.err p'.status).toArray rfl rfl HTH.out Tryz.szReply (all_oneCell_toArray (repV_one _ _ _ _)) ?_)
  refine bodyPost_ret (res_row (p := 4) (ty := 42) (by rw [Tryz.results22]) _ _ w.heap.size 0 rfl _ _ GG.out.2.range Tryz.underlying42 rfl (by rw [Tryz.szReply]; rfl)) rfl ⟨rfl, GG.out.1⟩

set_option maxRecDepth 100000 in
set_option maxHeartbeats 2000000 in
theorem end_run {n : Nat} {p' : Pst} (h : Mac w0 w mb sb db s) (ho : s.over = false) (hr : RunP w0 mb sb db n ({ s.p with ended := true } : Pst) p') (hl : p'.left.size ≤ 1000000) :
    Calls Tryz.prog 23 #[.pointer (some ⟨mb, 0, none⟩)] w fun r w' => r = .returned (.agg (repV p'.out true p'.err p'.status).toArray) ∧ Goes w0 mb sb db w s w' ({ p' with over := true } : Pst).replied := by
  have ka := Kp.alloc [] w (.cells repZ.toArray 42)
  have m1 := h.keep ka
  have c17 := m1.b.at_ 17 _ rfl
  rw [ho] at c17
  have c4 := m1.b.at_ 4 _ rfl
  have f4 := m1.b.free 4
  have m2 := m1.set (s' := { s with ended := true }) 4 (.bool true) (by omega) rfl rfl
  have HR := hid (run_v (s := { s with ended := true }) m2 hr)
  go_enter Tryz.func23, Tryz.ntmps23
  go_wp2_with fail
  refine HR.out.mono ?_
  rintro r w1 ⟨rfl, s1, e1, n1, g1⟩
  have d17 := n1.b.at_ 17 _ rfl
  have f17 := n1.b.free 17
  have n1' := n1.set (s' := { s1 with over := true }) 17 (.bool true) (by omega) rfl rfl
  have HP := hid (reply_v n1' (by show s1.left.size ≤ _; rw [show s1.left = p'.left from congrArg Pst.left e1]; exact hl))
  have hg : Gr mb db (w.alloc (.cells repZ.toArray 42)) s.r (w1.setCell ⟨mb, 17, none⟩ (.bool true)) s1.r := (Gr.set _ _ _ _).trans (g1.trans (Gr.set _ _ _ _))
  clear HR
  go_wp2_with fail
  refine HP.out.mono ?_
  rintro r w2 ⟨rfl, s2, e2, n2, g2⟩
  have eo : s1.r.out = p'.out := congrArg Pst.out e1
  have ee : s1.err = p'.err := congrArg Pst.err e1
  have es : s1.status = p'.status := congrArg Pst.status e1
  show (match Ending.returned (Value.agg (repV s1.r.out true s1.err s1.status).toArray), w2 with | _, _ => _)
  rw [eo, ee, es]
  have GG := hid (Goes.stored (p := ({ p' with over := true } : Pst).replied) (vs := repV p'.out true p'.err p'.status) rfl h ⟨s2, e2.trans (by show ({ s1.p with over := true } : Pst).replied = _; rw [e1]), n2, hg.trans g2⟩ rfl)
  have B2 := ((hg.trans g2).bl (Bl.alloc w repZ 42) (h.far_new (Nat.le_refl _)).2)
  have HTH : Hid (w2.there w.heap.size 0 4) := hid (fun j hj => by
    rw [Nat.zero_add]
    have : j < repZ.length := hj
    rw [B2.at_ j _ (List.getElem?_eq_getElem this)]
    exact ⟨rfl, B2.free j⟩)
  clear HP eo ee es e1 e2 B2
  go_wp2_with (refine wpList_store_mid rfl 42 (.tmp 2) (.tmp 18) rfl w.heap.size 0 (repV p'.out true p'.err p'.status).toArray rfl rfl HTH.out Tryz.szReply (all_oneCell_toArray (repV_one _ _ _ _)) ?_)
  refine bodyPost_ret (res_row (p := 2) (ty := 42) (by rw [Tryz.results23]) _ _ w.heap.size 0 rfl _ _ GG.out.2.range Tryz.underlying42 rfl (by rw [Tryz.szReply]; rfl)) rfl ⟨rfl, GG.out.1⟩

set_option maxRecDepth 100000 in
set_option maxHeartbeats 2000000 in
theorem end_over (h : Mac w0 w mb sb db s) (ho : s.over = true) (hl : s.left.size ≤ 1000000) :
    Calls Tryz.prog 23 #[.pointer (some ⟨mb, 0, none⟩)] w fun r w' => r = .returned (.agg (repV s.r.out true s.err s.status).toArray) ∧ Goes w0 mb sb db w s w' s.p.replied := by
  have ka := Kp.alloc [] w (.cells repZ.toArray 42)
  have m1 := h.keep ka
  have c17 := m1.b.at_ 17 _ rfl
  rw [ho] at c17
  have HP := hid (reply_v m1 hl)
  rw [ho] at HP
  go_enter Tryz.func23, Tryz.ntmps23
  go_wp2_with fail
  refine HP.out.mono ?_
  rintro r w2 ⟨rfl, s2, e2, n2, g2⟩
  have GG := hid (Goes.stored (vs := repV s.r.out true s.err s.status) rfl h ⟨s2, e2, n2, g2⟩ rfl)
  have B2 := (g2.bl (Bl.alloc w repZ 42) (h.far_new (Nat.le_refl _)).2)
  have HTH : Hid (w2.there w.heap.size 0 4) := hid (fun j hj => by
    rw [Nat.zero_add]
    have : j < repZ.length := hj
    rw [B2.at_ j _ (List.getElem?_eq_getElem this)]
    exact ⟨rfl, B2.free j⟩)
  clear HP e2 B2
  go_wp2_with (refine wpList_store_mid rfl 42 (.tmp 2) (.tmp 18) rfl w.heap.size 0 (repV s.r.out true s.err s.status).toArray rfl rfl HTH.out Tryz.szReply (all_oneCell_toArray (repV_one _ _ _ _)) ?_)
  refine bodyPost_ret (res_row (p := 2) (ty := 42) (by rw [Tryz.results23]) _ _ w.heap.size 0 rfl _ _ GG.out.2.range Tryz.underlying42 rfl (by rw [Tryz.szReply]; rfl)) rfl ⟨rfl, GG.out.1⟩

theorem idle_no {eb : Nat} (h : w.cell? ⟨eb, 0, none⟩ = some (.pointer (some ⟨mb, 0, none⟩))) :
    Calls Tryz.prog 21 #[.pointer (some ⟨eb, 0, none⟩)] w fun r w' => r = .returned (.bool false) ∧ w' = w := by
  go_enter Tryz.func21, Tryz.ntmps21
  go_wp2_with fail
  go_ret
  exact ⟨rfl, rfl⟩

/-- What a reply of the machine's makes of the editor's. -/
theorem Bl.reply {x : Nat} (hx : x = w.heap.size) (h : Mac w0 w mb sb db s) (g : Gr mb db (w.alloc (.cells repZ.toArray 42)) s.r w' s'.r) : w'.there x 0 4 := by
  have B2 := g.bl (Bl.alloc w repZ 42) (h.far_new (Nat.le_refl _)).2
  subst hx
  intro j hj
  rw [Nat.zero_add]
  have : j < repZ.length := hj
  rw [B2.at_ j _ (List.getElem?_eq_getElem this)]
  exact ⟨rfl, B2.free j⟩

set_option maxRecDepth 100000 in
set_option maxHeartbeats 2000000 in
theorem efeed_v {data : ByteArray} {eb : Nat} {o : List UInt8} {ov : Bool} {er st : Nat} {p' : Pst} (h : Mac w0 w mb sb db s) (he : w.cell? ⟨eb, 0, none⟩ = some (.pointer (some ⟨mb, 0, none⟩)))
    (hf : ∀ wx, Mac w0 wx mb sb db s → Calls Tryz.prog 22 #[.pointer (some ⟨mb, 0, none⟩), .string data] wx fun r w' => r = .returned (.agg (repV o ov er st).toArray) ∧ Goes w0 mb sb db wx s w' p') :
    Calls Tryz.prog 17 #[.pointer (some ⟨eb, 0, none⟩), .string data] w fun r w' => r = .returned (.agg (repV o ov er st).toArray) ∧ Goes w0 mb sb db w s w' p' := by
  have ka := Kp.alloc [] w (.cells repZ.toArray 42)
  have m1 := h.keep ka
  have HF := hid (hf _ m1)
  have he1 : (w.alloc (.cells repZ.toArray 42)).cell? ⟨eb, 0, none⟩ = some (.pointer (some ⟨mb, 0, none⟩)) := (ka.cell (p := ⟨eb, 0, none⟩) (World.block_lt_of_cell? _ _ he) (by simp)).trans he
  have HID := hid (idle_no he1)
  clear hf
  go_enter Tryz.func17, Tryz.ntmps17
  go_wp2_with fail
  refine HID.out.mono ?_
  rintro r w1 ⟨rfl, rfl⟩
  go_wp2_with fail
  refine HF.out.mono ?_
  rintro r w2 ⟨rfl, s2, e2, n2, g2⟩
  have GG := hid (Goes.stored (vs := repV o ov er st) rfl h ⟨s2, e2, n2, g2⟩ rfl)
  have HTH := hid (Bl.reply rfl h g2)
  clear HF HID
  go_wp2_with (refine wpList_store_mid rfl 42 (.tmp 4) (.tmp 13) rfl w.heap.size 0 (repV o ov er st).toArray rfl rfl HTH.out Tryz.szReply (all_oneCell_toArray (repV_one _ _ _ _)) ?_)
  refine bodyPost_ret (res_row (p := 4) (ty := 42) (by rw [Tryz.results17]) _ _ w.heap.size 0 rfl _ _ GG.out.2.range Tryz.underlying42 rfl (by rw [Tryz.szReply]; rfl)) rfl ⟨rfl, GG.out.1⟩

set_option maxRecDepth 100000 in
set_option maxHeartbeats 2000000 in
theorem eend_v {eb : Nat} {o : List UInt8} {ov : Bool} {er st : Nat} {p' : Pst} (h : Mac w0 w mb sb db s) (he : w.cell? ⟨eb, 0, none⟩ = some (.pointer (some ⟨mb, 0, none⟩)))
    (hf : ∀ wx, Mac w0 wx mb sb db s → Calls Tryz.prog 23 #[.pointer (some ⟨mb, 0, none⟩)] wx fun r w' => r = .returned (.agg (repV o ov er st).toArray) ∧ Goes w0 mb sb db wx s w' p') :
    Calls Tryz.prog 18 #[.pointer (some ⟨eb, 0, none⟩)] w fun r w' => r = .returned (.agg (repV o ov er st).toArray) ∧ Goes w0 mb sb db w s w' p' := by
  have ka := Kp.alloc [] w (.cells repZ.toArray 42)
  have m1 := h.keep ka
  have HF := hid (hf _ m1)
  have he1 : (w.alloc (.cells repZ.toArray 42)).cell? ⟨eb, 0, none⟩ = some (.pointer (some ⟨mb, 0, none⟩)) := (ka.cell (p := ⟨eb, 0, none⟩) (World.block_lt_of_cell? _ _ he) (by simp)).trans he
  have HID := hid (idle_no he1)
  clear hf
  go_enter Tryz.func18, Tryz.ntmps18
  go_wp2_with fail
  refine HID.out.mono ?_
  rintro r w1 ⟨rfl, rfl⟩
  go_wp2_with fail
  refine HF.out.mono ?_
  rintro r w2 ⟨rfl, s2, e2, n2, g2⟩
  have GG := hid (Goes.stored (vs := repV o ov er st) rfl h ⟨s2, e2, n2, g2⟩ rfl)
  have HTH := hid (Bl.reply rfl h g2)
  clear HF HID
  go_wp2_with (refine wpList_store_mid rfl 42 (.tmp 2) (.tmp 10) rfl w.heap.size 0 (repV o ov er st).toArray rfl rfl HTH.out Tryz.szReply (all_oneCell_toArray (repV_one _ _ _ _)) ?_)
  refine bodyPost_ret (res_row (p := 2) (ty := 42) (by rw [Tryz.results18]) _ _ w.heap.size 0 rfl _ _ GG.out.2.range Tryz.underlying42 rfl (by rw [Tryz.szReply]; rfl)) rfl ⟨rfl, GG.out.1⟩
end
end Go.Proofs.YtonnimbcekhbgaaGreatDoor
