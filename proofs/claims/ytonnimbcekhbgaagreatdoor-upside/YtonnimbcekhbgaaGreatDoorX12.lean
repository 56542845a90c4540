/- What the claim needs of: EZ FA. -/
import Derived.Test.YtonnimbcekhbgaaGreatDoorX11
import Derived.Deep.LoopGhost
import Derived.Laws.IdiomStrings
import Derived.Laws.BytesArg

/- EZ. -/
namespace Go.Proofs.YtonnimbcekhbgaaGreatDoor
open Go.RowKit

/-- How it runs: a number of rounds, then it stands still. -/
inductive RunP (w0 : World) (mb sb db : Nat) : Nat → Pst → Pst → Prop
  | over {p : Pst} (h : p.over = true) : RunP w0 mb sb db 0 p p
  | dry {p : Pst} (h : p.over = false) (hx : ∀ w s, Mac w0 w mb sb db s → s.p = p → Calls Tryz.prog 62 #[.pointer (some ⟨mb, 0, none⟩)] w fun r w' => r = .returned (.bool false) ∧ Goes w0 mb sb db w s w' p) : RunP w0 mb sb db 0 p p
  | round {n : Nat} {p p1 p2 p3 : Pst} (h : p.over = false) (hs : ∀ w s, Mac w0 w mb sb db s → s.p = p → Calls Tryz.prog 62 #[.pointer (some ⟨mb, 0, none⟩)] w fun r w' => r = .returned (.bool true) ∧ Goes w0 mb sb db w s w' p1)
      (hl : ∀ w s, Mac w0 w mb sb db s → s.p = p1 → Calls Tryz.prog 63 #[.pointer (some ⟨mb, 0, none⟩)] w fun r w' => r = .returned (.tuple #[]) ∧ Goes w0 mb sb db w s w' p2) (hr : RunP w0 mb sb db n p2 p3) : RunP w0 mb sb db (n + 1) p p3

section
variable {w0 w w' w2 : World} {mb sb db lo hi : Nat} {s s' : Mst} {σ : Sst}

set_option maxRecDepth 100000 in
set_option maxHeartbeats 1000000 in
theorem catchR_idle (p : Addr) (w : World) :
    CallsD Tryz.prog 61 #[.pointer (some p)] .returning w fun e u' w' => e = .returned (.tuple #[]) ∧ u' = .returning ∧ w' = w := by
  refine callsD_of_wpS Tryz.func61 rfl fun c₀ cs hu => ?_
  apply wpS_seq
  apply wpS_region
  simp [wpOpsS, go_sem, recoverD, hu, Tryz.ntmps61, Exit.thenS]
  refine wpS_of_wp ?_
  go_wp2
  cases c₀
  simp_all [bodyPostS, results, Tryz.results61]

theorem RunP.cases {n : Nat} {p p' : Pst} (h : RunP w0 mb sb db n p p') : (p.over = true ∧ p' = p) ∨ (p.over = false ∧ p' = p ∧ ∀ w s, Mac w0 w mb sb db s → s.p = p → Calls Tryz.prog 62 #[.pointer (some ⟨mb, 0, none⟩)] w fun r w' => r = .returned (.bool false) ∧ Goes w0 mb sb db w s w' p) ∨
    (p.over = false ∧ ∃ m p1 p2, n = m + 1 ∧ (∀ w s, Mac w0 w mb sb db s → s.p = p → Calls Tryz.prog 62 #[.pointer (some ⟨mb, 0, none⟩)] w fun r w' => r = .returned (.bool true) ∧ Goes w0 mb sb db w s w' p1) ∧
      (∀ w s, Mac w0 w mb sb db s → s.p = p1 → Calls Tryz.prog 63 #[.pointer (some ⟨mb, 0, none⟩)] w fun r w' => r = .returned (.tuple #[]) ∧ Goes w0 mb sb db w s w' p2) ∧ RunP w0 mb sb db m p2 p') := by
  cases h with
  | over h => exact .inl ⟨h, rfl⟩
  | dry h hx => exact .inr (.inl ⟨h, rfl, hx⟩)
  | round h hs hl hr => exact .inr (.inr ⟨h, _, _, _, rfl, hs, hl, hr⟩)

set_option maxRecDepth 100000 in
set_option maxHeartbeats 2000000 in
theorem run_v {n : Nat} {p' : Pst} (h : Mac w0 w mb sb db s) (hr : RunP w0 mb sb db n s.p p') :
    Calls Tryz.prog 30 #[.pointer (some ⟨mb, 0, none⟩)] w fun r w' => r = .returned (.tuple #[]) ∧ Goes w0 mb sb db w s w' p' := by
  have hmf : ∀ (fn : Fn) (first cap : Array Value) (w : World), (Instr.makeFunc fn first cap).run Tryz.prog w = .ok (.func fn first cap) w := fun _ _ _ _ => rfl
  have H := hid hr
  clear hr
  obtain ⟨o, ho⟩ : ∃ o : Obj, o = .cells #[.pointer (some ⟨mb, 0, none⟩)] 53 := ⟨_, rfl⟩
  have k1 := Kp.alloc [] w o
  have m1 := h.keep k1
  have BX : Bl (w.alloc o) w.heap.size [.pointer (some ⟨mb, 0, none⟩)] := by rw [ho]; exact Bl.alloc w _ _
  have far := (h.far_new (Nat.le_refl w.heap.size)).2
  obtain ⟨x, hx⟩ : ∃ x, x = w.heap.size := ⟨_, rfl⟩
  obtain ⟨wa, hwa⟩ : ∃ wa, wa = w.alloc o := ⟨_, rfl⟩
  have HO := hid ho
  go_enter_defers Tryz.func30, Tryz.ntmps30
  go_wp2_with fail
  rw [← hx]
  rw [← ho, ← hwa]
  rw [← hx] at BX far
  rw [← hwa] at BX m1 k1
  clear hx hwa ho HO
  have BXH := hid BX
  go_loopg [3] n (fun k _ wr => ∃ s1, Mac w0 wr mb sb db s1 ∧ Hid (RunP w0 mb sb db k s1.p p') ∧ Gr mb db wa s.r wr s1.r)
  case atStart => exact ⟨s, m1, H, Gr.refl _ _ _ _⟩
  case round =>
    obtain ⟨s1, ms, HR, gs⟩ := hrel
    have b1 := (gs.bl BXH.out far).at_ 0 _ rfl
    have c17 := ms.b.at_ 17 _ rfl
    rcases HR.out.cases with ⟨hov, hp⟩ | ⟨hov, hp, hsup⟩ | ⟨hov, m, p1, p2, hn, hsup, hlk, hrr⟩
    · have e17 : s1.over = true := hov
      rw [e17] at c17
      clear HR
      go_wp2_with fail
      refine leaves_cons (f := 61) (args := #[.pointer (some ⟨x, 0, none⟩)]) (by simp) (by simp [go_sem]) ?_
      refine (catchR_idle _ _).mono ?_
      rintro e u' w'' ⟨rfl, rfl, rfl⟩
      simp [Leaves, settle, results, Tryz.results30, go_sem]
      exact ⟨s1, hp.symm, ms, (Gr.of_kp k1 (fun _ e => by cases e)).trans gs⟩
    · have e17 : s1.over = false := hov
      rw [e17] at c17
      have HSU := hid hsup
      clear HR hsup
      go_wp2_with fail
      refine (HSU.out wr s1 ms rfl).mono ?_
      rintro r w2 ⟨rfl, s2, e2, m2, g2⟩
      go_wp2_with fail
      refine leaves_cons (f := 61) (args := #[.pointer (some ⟨x, 0, none⟩)]) (by simp) (by simp [go_sem]) ?_
      refine (catchR_idle _ _).mono ?_
      rintro e u' w'' ⟨rfl, rfl, rfl⟩
      simp [Leaves, settle, results, Tryz.results30, go_sem]
      exact ⟨s2, e2.trans hp.symm, m2, (Gr.of_kp k1 (fun _ e => by cases e)).trans (gs.trans g2)⟩
    · have e17 : s1.over = false := hov
      rw [e17] at c17
      have HSU := hid hsup
      have HLK := hid hlk
      have HRR := hid hrr
      have HN := hid hn
      clear HR hsup hlk hrr hn
      go_wp2_with fail
      refine (HSU.out wr s1 ms rfl).mono ?_
      rintro r w2 ⟨rfl, s2, e2, m2, g2⟩
      have g12 := gs.trans g2
      have b2 := (g12.bl BXH.out far).at_ 0 _ rfl
      go_wp2_with fail
      refine (HLK.out w2 s2 m2 e2).mono ?_
      rintro r w3 ⟨rfl, s3, e3, m3, g3⟩
      go_wp2_with fail
      go_roundg m
      case measure => have := HN.out; omega
      case rel => exact ⟨s3, m3, hid (by rw [e3]; exact HRR.out), g12.trans g3⟩
end
end Go.Proofs.YtonnimbcekhbgaaGreatDoor

/- FA. -/
namespace Go.Proofs.YtonnimbcekhbgaaGreatDoor
open Go.RowKit

section
variable {w0 w w' w2 : World} {mb sb db lo hi : Nat} {s s' : Mst} {σ : Sst}

/-- What was told, as a string. -/
theorem conv_row {base : Nat} {v : Value} {l : List UInt8} (h : w.ownsRow base 5 1 v l.length (Lib.byteCells l)) : (convert 34 9 v).run Tryz.prog w = .ok (.string (ba l)) w := by
  rcases h.2 with ⟨rfl, q⟩ | ⟨g, cap, cur, rfl, q2, q3, q4, q5⟩
  · have : l = [] := List.eq_nil_of_length_eq_zero q
    subst this
    exact run_convert_bytes_nil w 34 5 Tryz.underlying34 Tryz.underlying5 0 0 9 Tryz.underlying9
  · refine run_convert_bytes_back w 34 9 5 ⟨g, 0, none⟩ cap l Tryz.underlying34 Tryz.underlying5 Tryz.underlying9 (fun j hj => ?_)
    rw [Addr.add_mid, Nat.zero_add, h.cellAt j (by omega)]
    simp [Lib.byteCells, hj]

theorem maB_vo0 (mb db : Nat) (r : Mrw) : maB mb db { r with vo := .slice none 0 0, out := [] } = fun j => if j = 2 then none else maB mb db r j := by
  funext i
  rcases i with _ | _ | _ | _ | _ | _ | i <;> simp [maB, Value.ownBlock]
/-- What was told is taken. -/
theorem Mac.noOut (h : Mac w0 w mb sb db s) : Goes w0 mb sb db w s (w.setCell ⟨mb, 5, none⟩ (.slice none 0 0)) { s.p with out := [] } := by
  have k : Kp [mb] w (w.setCell ⟨mb, 5, none⟩ (.slice none 0 0)) := Kp.setCell _ _ (by simp)
  have r := h.r.keep k (fun x hx => by
    simp at hx
    subst hx
    exact ⟨h.r.bk.lo 0 x rfl, fun i hi => h.mb_ne i hi⟩)
  refine ⟨{ s with r := { s.r with vo := .slice none 0 0, out := [] } }, rfl, ⟨h.b.set 5 _ (by show 5 < 20; omega), ⟨r.kp, World.ownsRow_nil _ _ _ _, r.o3, r.ofl, r.o4, r.o5, r.md, ?_, r.fll⟩⟩, ⟨k.size, fun i p hp => ?_, fun p hp hn => k.block p hp (fun e => by simp at e; exact hn 0 (by rw [e]; rfl))⟩⟩
  · show Bk.ok _ _ (maB mb db { s.r with vo := .slice none 0 0, out := [] })
    rw [maB_vo0]
    refine ⟨fun i p hp => ?_, fun i p hp => ?_, fun i j p hi hj => ?_⟩
    · split at hp
      · cases hp
      · exact r.bk.lo i p hp
    · split at hp
      · cases hp
      · exact r.bk.hi i p hp
    · split at hi <;> split at hj
      · omega
      · cases hi
      · cases hj
      · exact r.bk.ne i j p hi hj
  · replace hp : maB mb db { s.r with vo := .slice none 0 0, out := [] } i = some p := hp
    rw [maB_vo0] at hp
    replace hp : (if i = 2 then none else maB mb db s.r i) = some p := hp
    split at hp
    · cases hp
    · exact .inl ⟨i, hp⟩

set_option maxRecDepth 100000 in
set_option maxHeartbeats 1000000 in
theorem takeOut_v (h : Mac w0 w mb sb db s) :
    Calls Tryz.prog 65 #[.pointer (some ⟨mb, 5, none⟩)] w fun r w' => r = .returned (.string (ba s.r.out)) ∧ Goes w0 mb sb db w s w' { s.p with out := [] } := by
  have c5 := h.b.at_ 5 _ rfl
  have f5 := h.b.free 5
  have hcv := conv_row h.r.o2
  have H := hid h.noOut
  go_enter Tryz.func65, Tryz.ntmps65
  go_wp2_with fail
  go_ret
  exact ⟨rfl, H.out⟩

set_option maxRecDepth 100000 in
set_option maxHeartbeats 1000000 in
theorem settle_v (h : Mac w0 w mb sb db s) (hl : s.left.size ≤ 1000000) :
    Calls Tryz.prog 64 #[.pointer (some ⟨mb, 2, none⟩)] w fun r w' => r = .returned (.tuple #[]) ∧ Goes w0 mb sb db w s w' s.p := by
  have c2 := h.b.at_ 2 _ rfl
  have f2 := h.b.free 2
  go_enter Tryz.func64, Tryz.ntmps64
  go_wp2_with fail
  refine (clone_k s.left w (by omega)).mono ?_
  rintro r w1 ⟨rfl, k1⟩
  have m1 := h.keep k1
  have d2 := m1.b.at_ 2 _ rfl
  have g2 := m1.b.free 2
  go_wp2_with fail
  go_end0
  exact ⟨rfl, s, rfl, m1.set 2 _ (by omega) rfl rfl, (Gr.of_kp k1 (fun _ e => by cases e)).trans (Gr.set _ _ _ _)⟩

abbrev repV (o : List UInt8) (ov : Bool) (er st : Nat) : List Value := [.string (ba o), .bool ov, .int .i64 er, .int .i64 st]
theorem Tryz.szReply : (Tryz.prog.info? 42).map (·.size) = some 4 := by kernel_rfl
/-- What is left when it replied. -/
def Pst.replied (p : Pst) : Pst := { p with out := [], left := if p.over then ⟨#[]⟩ else p.left }

set_option maxRecDepth 100000 in
set_option maxHeartbeats 4000000 in
theorem reply_v (h : Mac w0 w mb sb db s) (hl : s.left.size ≤ 1000000) :
    Calls Tryz.prog 31 #[.pointer (some ⟨mb, 0, none⟩)] w fun r w' => r = .returned (.agg (repV s.r.out s.over s.err s.status).toArray) ∧ Goes w0 mb sb db w s w' s.p.replied := by
  have B0 := hid (Bl.alloc w [.string ⟨#[]⟩, .bool false, .int .i64 0, .int .i64 0] 42)
  have k1 := Kp.alloc [] w (.cells [Value.string ⟨#[]⟩, .bool false, .int .i64 0, .int .i64 0].toArray 42)
  have m1 := h.keep k1
  have far := (h.far_new (Nat.le_refl w.heap.size)).2
  have c17 := m1.b.at_ 17 _ rfl
  have c2 := m1.b.at_ 2 _ rfl
  have f2 := m1.b.free 2
  obtain ⟨x, hx⟩ : ∃ x, x = w.heap.size := ⟨_, rfl⟩
  obtain ⟨wa, hwa⟩ : ∃ wa, wa = w.alloc (.cells [Value.string ⟨#[]⟩, .bool false, .int .i64 0, .int .i64 0].toArray 42) := ⟨_, rfl⟩
  obtain ⟨l1, hl1⟩ : ∃ l1 : ByteArray, l1 = if s.over then ⟨#[]⟩ else s.left := ⟨_, rfl⟩
  have HL1 := hid hl1
  have hl2 : l1.size ≤ 1000000 := by
    rw [hl1]
    split
    · show 0 ≤ 1000000; omega
    · exact hl
  go_enter Tryz.func31, Tryz.ntmps31
  go_upto_if 6 with fail
  rw [← hx]
  rw [← hwa] at B0 k1 m1 c17 c2 f2 ⊢
  rw [← hx] at far B0
  have HXX := hid hx
  clear hx hwa hl1
  go_cut [3] from 6 (fun _ wx => ∃ s1, s1.p = ({ s.p with left := l1 } : Pst) ∧ Mac w0 wx mb sb db s1 ∧ Gr mb db wa s.r wx s1.r)
  case first =>
    cases ho : s.over
    · rw [ho] at c17
      go_wp2_with fail
      go_meet
      case rel => exact ⟨s, by rw [HL1.out, if_neg (by rw [ho]; simp)]; rfl, m1, Gr.refl _ _ _ _⟩
    · rw [ho] at c17
      go_wp2_with fail
      go_meet
      case rel => exact ⟨{ s with left := ⟨#[]⟩ }, by rw [HL1.out, if_pos ho]; rfl, m1.set 2 _ (by omega) rfl rfl, Gr.set _ _ _ _⟩
  case rest =>
  obtain ⟨s1, e1, m2, g2⟩ := hcut
  have el : s1.left = l1 := congrArg Pst.left e1
  have HST := hid (settle_v m2 (by rw [el]; exact hl2))
  clear c17 c2 f2
  go_wp2_with fail
  refine HST.out.mono ?_
  rintro r w3 ⟨rfl, s3, e3, m3, g3⟩
  have g13 := g2.trans g3
  have B3 := g13.bl B0.out far
  have e13 := e3.trans e1
  have eo : s3.over = s.over := congrArg Pst.over e13
  have ee : s3.err = s.err := congrArg Pst.err e13
  have es : s3.status = s.status := congrArg Pst.status e13
  have eu : s3.r.out = s.r.out := congrArg Pst.out e13
  have d17 := m3.b.at_ 17 _ rfl
  have d18 := m3.b.at_ 18 _ rfl
  have d19 := m3.b.at_ 19 _ rfl
  rw [eo] at d17
  rw [ee] at d18
  rw [es] at d19
  have HTO := hid (takeOut_v (m3.keep (Kp.drew [] w3)))
  have EQ := hid (And.intro e13 (And.intro eo (And.intro ee (And.intro es eu))))
  clear HST el e1 e3 e13 eo ee es eu g2 g3
  go_upto_region 4 with fail
  go_cut [3] from 15 (fun _ wx => ∃ s4, s4.p = s.p.replied ∧ Mac w0 wx mb sb db s4 ∧ Gr mb db w s.r wx s4.r ∧ Bl wx x (repV s.r.out s.over s.err s.status))
  case first =>
    have KEY : Hid (∀ wx s4, s4.p = ({ s3.p with out := [] } : Pst) → Mac w0 wx mb sb db s4 → wx.cell? ⟨mb, 17, none⟩ = some (.bool s.over) ∧ wx.cell? ⟨mb, 18, none⟩ = some (.int .i64 s.err) ∧ wx.cell? ⟨mb, 19, none⟩ = some (.int .i64 s.status)) := hid (fun wx s4 e m => by
      have o1 : s4.over = s.over := (congrArg Pst.over e).trans EQ.out.2.1
      have o2 : s4.err = s.err := (congrArg Pst.err e).trans EQ.out.2.2.1
      have o3 : s4.status = s.status := (congrArg Pst.status e).trans EQ.out.2.2.2.1
      rw [← o1, ← o2, ← o3]
      exact ⟨m.b.at_ 17 _ rfl, m.b.at_ 18 _ rfl, m.b.at_ 19 _ rfl⟩)
    have FARX : Hid (∀ i, maB mb db s3.r i ≠ some x) := hid (fun i e => by
      rcases g13.from_ i x e with ⟨j, hj⟩ | q
      · exact far j hj
      · have := B0.out.lt; omega)
    go_region_with (go_at_call 65; refine HTO.out.mono ?_; rintro r w4 ⟨rfl, s4, e4, m4, g4⟩; have q17 := (KEY.out w4 s4 e4 m4).1; have q18 := (KEY.out w4 s4 e4 m4).2.1; have q19 := (KEY.out w4 s4 e4 m4).2.2; have B4 := hid (g4.bl (B3.keep (Kp.drew [] w3) (by simp)) FARX.out); have x0 := B4.out.at_ 0 _ rfl; have x1 := B4.out.at_ 1 _ rfl; have x2 := B4.out.at_ 2 _ rfl; have x3 := B4.out.at_ 3 _ rfl; have y0 := B4.out.free 0; have y1 := B4.out.free 1; have y2 := B4.out.free 2; have y3 := B4.out.free 3)
    all_goals
      go_wp2_with fail
      go_meet
      case rel =>
        rw [← EQ.out.2.2.2.2]
        have kx : Kp [x] w4 (w4.setCells x 0 (repV s3.r.out s.over s.err s.status)) := kp_setCells (by simp) _ _ _
        have gx : Gr mb db wa s.r w4 s4.r := g13.trans ((Gr.of_kp (r := s3.r) (Kp.drew [] w3) (fun _ e => by cases e)).trans g4)
        have fx : ∀ i, maB mb db s4.r i ≠ some x := fun i e => by
          rcases gx.from_ i x e with ⟨j, hj⟩ | q
          · exact far j hj
          · have := B0.out.lt; omega
        have gw : Gr mb db w s.r w4 s4.r := (Gr.of_kp k1 (fun _ e => by cases e)).trans gx
        refine ⟨s4, ?_, m4.other kx (fun y hy => ?_), ⟨Nat.le_trans gw.size kx.size, gw.from_, fun p hp hn => (kx.block p (Nat.lt_of_lt_of_le hp gw.size) (fun e => ?_)).trans (gw.same p hp hn)⟩, B4.out.put (vs := repV s3.r.out s.over s.err s.status) rfl⟩
        · rw [e4, EQ.out.1, HL1.out]; rfl
        · simp at hy
          rw [hy]
          exact ⟨by rw [HXX.out]; exact h.r.kp.size, fx⟩
        · simp at e
          rw [e, HXX.out] at hp
          omega
  case rest =>
  obtain ⟨s4, e4, m4, g4, B4⟩ := hcut
  go_wp2_with fail
  refine bodyPost_ret (res_row (p := 2) (ty := 42) (by rw [Tryz.results31]) _ _ x 0 rfl _ _ B4.range Tryz.underlying42 rfl (by rw [Tryz.szReply]; rfl)) rfl ⟨rfl, s4, e4, m4, g4⟩
end
end Go.Proofs.YtonnimbcekhbgaaGreatDoor
