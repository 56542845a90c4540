/- The machine runs. -/
import Derived.Test.YtonnimbcekhbgaaGreatDoorEXToFC
import Derived.Deep.LoopGhost
namespace Go.Proofs.YtonnimbcekhbgaaGreatDoor
open Go.RowKit

/-- How it runs: a number of rounds, then it stands still. -/
inductive RunP (w0 : World) (mb sb db : Nat) : Nat → Pst → Pst → Prop
  | over {p : Pst} (h : p.over = true) : RunP w0 mb sb db 0 p p
  | dry {p : Pst} (h : p.over = false) (hx : ∀ w s, Mac w0 w mb sb db s → s.p = p → Calls Tryz.prog 62 #[.pointer (some ⟨mb, 0, none⟩)] w fun r w' => r = .returned (.bool false) ∧ Goes w0 mb sb db w s w' p) : RunP w0 mb sb db 0 p p
  | round {n : Nat} {p p1 p2 p3 : Pst} (h : p.over = false) (hs : ∀ w s, Mac w0 w mb sb db s → s.p = p → Calls Tryz.prog 62 #[.pointer (some ⟨mb, 0, none⟩)] w fun r w' => r = .returned (.bool true) ∧ Goes w0 mb sb db w s w' p1)
      (hl : ∀ w s, Mac w0 w mb sb db s → s.p = p1 → Calls Tryz.prog 63 #[.pointer (some ⟨mb, 0, none⟩)] w fun r w' => r = .returned (.tuple #[]) ∧ Goes w0 mb sb db w s w' p2) (hr : RunP w0 mb sb db n p2 p3) : RunP w0 mb sb db (n + 1) p p3

section
variable {w0 w w' w2 : World} {mb sb db lo hi : Nat} {s s' : Mst} {σ : Sst}

set_option maxRecDepth 100000 in
set_option maxHeartbeats 1000000 in
theorem catchR_idle (p : Addr) (w : World) :
    CallsD Tryz.prog 61 #[.pointer (some p)] .returning w fun e u' w' => e = .returned (.tuple #[]) ∧ u' = .returning ∧ w' = w := by
  refine callsD_of_wpS Tryz.func61 rfl fun c₀ cs hu => ?_
  apply wpS_seq
  apply wpS_region
  simp [wpOpsS, go_sem, recoverD, hu, Tryz.ntmps61, Exit.thenS]
  refine wpS_of_wp ?_
  go_wp2
  cases c₀
  simp_all [bodyPostS, results, Tryz.results61]

theorem RunP.cases {n : Nat} {p p' : Pst} (h : RunP w0 mb sb db n p p') : (p.over = true ∧ p' = p) ∨ (p.over = false ∧ p' = p ∧ ∀ w s, Mac w0 w mb sb db s → s.p = p → Calls Tryz.prog 62 #[.pointer (some ⟨mb, 0, none⟩)] w fun r w' => r = .returned (.bool false) ∧ Goes w0 mb sb db w s w' p) ∨
    (p.over = false ∧ ∃ m p1 p2, n = m + 1 ∧ (∀ w s, Mac w0 w mb sb db s → s.p = p → Calls Tryz.prog 62 #[.pointer (some ⟨mb, 0, none⟩)] w fun r w' => r = .returned (.bool true) ∧ Goes w0 mb sb db w s w' p1) ∧
      (∀ w s, Mac w0 w mb sb db s → s.p = p1 → Calls Tryz.prog 63 #[.pointer (some ⟨mb, 0, none⟩)] w fun r w' => r = .returned (.tuple #[]) ∧ Goes w0 mb sb db w s w' p2) ∧ RunP w0 mb sb db m p2 p') := by
  cases h with
  | over h => exact .inl ⟨h, rfl⟩
  | dry h hx => exact .inr (.inl ⟨h, rfl, hx⟩)
  | round h hs hl hr => exact .inr (.inr ⟨h, _, _, _, rfl, hs, hl, hr⟩)

set_option maxRecDepth 100000 in
set_option maxHeartbeats 2000000 in
theorem run_v {n : Nat} {p' : Pst} (h : Mac w0 w mb sb db s) (hr : RunP w0 mb sb db n s.p p') :
    Calls Tryz.prog 30 #[.pointer (some ⟨mb, 0, none⟩)] w fun r w' => r = .returned (.tuple #[]) ∧ Goes w0 mb sb db w s w' p' := by
  have hmf : ∀ (fn : Fn) (first cap : Array Value) (w : World), (Instr.makeFunc fn first cap).run Tryz.prog w = .ok (.func fn first cap) w := fun _ _ _ _ => rfl
  have H := hid hr
  clear hr
  obtain ⟨o, ho⟩ : ∃ o : Obj, o = .cells #[.pointer (some ⟨mb, 0, none⟩)] 53 := ⟨_, rfl⟩
  have k1 := Kp.alloc [] w o
  have m1 := h.keep k1
  have BX : Bl (w.alloc o) w.heap.size [.pointer (some ⟨mb, 0, none⟩)] := by rw [ho]; exact Bl.alloc w _ _
  have far := (h.far_new (Nat.le_refl w.heap.size)).2
  obtain ⟨x, hx⟩ : ∃ x, x = w.heap.size := ⟨_, rfl⟩
  obtain ⟨wa, hwa⟩ : ∃ wa, wa = w.alloc o := ⟨_, rfl⟩
  have HO := hid ho
  go_enter_defers Tryz.func30, Tryz.ntmps30
  go_wp2_with fail
  rw [← hx]
  rw [← ho, ← hwa]
  rw [← hx] at BX far
  rw [← hwa] at BX m1 k1
  clear hx hwa ho HO
  have BXH := hid BX
  go_loopg [3] n (fun k _ wr => ∃ s1, Mac w0 wr mb sb db s1 ∧ Hid (RunP w0 mb sb db k s1.p p') ∧ Gr mb db wa s.r wr s1.r)
  case atStart => exact ⟨s, m1, H, Gr.refl _ _ _ _⟩
  case round =>
    obtain ⟨s1, ms, HR, gs⟩ := hrel
    have b1 := (gs.bl BXH.out far).at_ 0 _ rfl
    have c17 := ms.b.at_ 17 _ rfl
    rcases HR.out.cases with ⟨hov, hp⟩ | ⟨hov, hp, hsup⟩ | ⟨hov, m, p1, p2, hn, hsup, hlk, hrr⟩
    · have e17 : s1.over = true := hov
      rw [e17] at c17
      clear HR
      go_wp2_with fail
      refine leaves_cons (f := 61) (args := #[.pointer (some ⟨x, 0, none⟩)]) (by simp) (by simp [go_sem]) ?_
      refine (catchR_idle _ _).mono ?_
      rintro e u' w'' ⟨rfl, rfl, rfl⟩
      simp [Leaves, settle, results, Tryz.results30, go_sem]
      exact ⟨s1, hp.symm, ms, (Gr.of_kp k1 (fun _ e => by cases e)).trans gs⟩
    · have e17 : s1.over = false := hov
      rw [e17] at c17
      have HSU := hid hsup
      clear HR hsup
      go_wp2_with fail
      refine (HSU.out wr s1 ms rfl).mono ?_
      rintro r w2 ⟨rfl, s2, e2, m2, g2⟩
      go_wp2_with fail
      refine leaves_cons (f := 61) (args := #[.pointer (some ⟨x, 0, none⟩)]) (by simp) (by simp [go_sem]) ?_
      refine (catchR_idle _ _).mono ?_
      rintro e u' w'' ⟨rfl, rfl, rfl⟩
      simp [Leaves, settle, results, Tryz.results30, go_sem]
      exact ⟨s2, e2.trans hp.symm, m2, (Gr.of_kp k1 (fun _ e => by cases e)).trans (gs.trans g2)⟩
    · have e17 : s1.over = false := hov
      rw [e17] at c17
      have HSU := hid hsup
      have HLK := hid hlk
      have HRR := hid hrr
      have HN := hid hn
      clear HR hsup hlk hrr hn
      go_wp2_with fail
      refine (HSU.out wr s1 ms rfl).mono ?_
      rintro r w2 ⟨rfl, s2, e2, m2, g2⟩
      have g12 := gs.trans g2
      have b2 := (g12.bl BXH.out far).at_ 0 _ rfl
      go_wp2_with fail
      refine (HLK.out w2 s2 m2 e2).mono ?_
      rintro r w3 ⟨rfl, s3, e3, m3, g3⟩
      go_wp2_with fail
      go_roundg m
      case measure => have := HN.out; omega
      case rel => exact ⟨s3, m3, hid (by rw [e3]; exact HRR.out), g12.trans g3⟩
end
end Go.Proofs.YtonnimbcekhbgaaGreatDoor
