/- What the claim needs of: KP. -/
import Derived.Test.YtonnimbcekhbgaaGreatDoorX39
import Derived.Test.YtonnimbcekhbgaaGreatDoorX19

/- KP. -/
namespace Go.Proofs.YtonnimbcekhbgaaGreatDoor
open Go.RowKit Go.Shelf

section
variable {w0 w w' : World} {mb sb db lo hi : Nat} {s s' : Mst} {σ : Sst}

set_option maxRecDepth 100000 in
set_option maxHeartbeats 1000000 in
theorem bounded_v {t : ByteArray} (ht : t.size ≤ 4000) : Calls Tryz.prog 85 #[.string t] w fun r w' => r = .returned (.string t) ∧ Kp [] w w' := by
  go_enter Tryz.func85, Tryz.ntmps85
  go_wp2_with fail
  go_ret
  exact ⟨rfl, Kp.refl _ _⟩

/-- What an s does to the machine. -/
def Pst.replaced (T : List UInt8) (ok : Bool) (p : Pst) : Pst := if ok then { p with space := ba T, repl := true } else p

set_option maxRecDepth 100000 in
set_option maxHeartbeats 4000000 in
theorem replace_v {ca co : Nat} {sp T : List UInt8} {ok : Bool} (h : Mac w0 w mb sb db s) (hsp : s.space = ba sp) (hT : T.length ≤ 4000) (c18 : w.cell? ⟨ca, co + 18, none⟩ = some (.bool false)) (c6 : w.cell? ⟨ca, co + 6, none⟩ = some (.string ⟨#[]⟩)) (hn : ∀ i, maB mb db s.r i ≠ some ca)
    (H : ∀ w2, Kp [] w w2 → Calls Tryz.prog 84 #[.string (ba sp), .pointer (some ⟨ca, co + 11, none⟩)] w2 fun r w' => Kp [] w2 w' ∧ r = .returned (.tuple #[.string (ba T), .bool ok])) :
    Calls Tryz.prog 42 #[.pointer (some ⟨mb, 0, none⟩), .pointer (some ⟨ca, co, none⟩)] w fun r w' => r = .returned (.tuple #[]) ∧ Goes w0 mb sb db w s w' (s.p.replaced T ok) := by
  have HM := hid h
  have c9 := h.b.at_ 9 _ rfl
  rw [hsp] at c9
  have C9 := hid c9
  have HH := hid H
  have C6 := hid c6
  have C18 := hid c18
  clear H c6 c18 c9 h
  go_enter Tryz.func42, Tryz.ntmps42
  go_wp2_with fail
  rename_i K1 hK1
  have HK1 := hid hK1
  clear hK1
  refine wp_region_noPanic ?_
  refine wp_region_held (S := fun w' : World => w'.cell? ⟨mb, 9, none⟩ = some (.string (ba sp))) (by kernel_rfl) ?_
  change wpAnyH _ _ _ _ _ _ _ _ w.drew
  have hS : (fun w' : World => w'.cell? ⟨mb, 9, none⟩ = some (.string (ba sp))) w.drew := C9.out
  refine wpAnyH_take (i := 0) (v := ?v0a) rfl (by kernel_rfl) (by kernel_rfl) (by kernel_rfl) (fun _ _ _ h => h) (Or.inl ⟨by rfl, ?y0a⟩) hS ?_
  case y0a => (intro w hSw; (try dsimp only at hSw); go_simp; (try with_reducible rfl))
  simp only [List.getElem_toArray, List.getElem_cons_zero, Act.put, List.setIfInBounds_toArray, List.set_cons_zero, List.set_cons_succ]
  refine wpAnyH_take (i := 1) (v := ?v1a) rfl (by kernel_rfl) (by kernel_rfl) (by kernel_rfl) (fun _ _ _ h => h) (Or.inl ⟨by rfl, ?y1a⟩) hS ?_
  case y1a => (intro w hSw; (try dsimp only at hSw); go_simp; (try with_reducible rfl))
  simp only [List.getElem_toArray, List.getElem_cons_succ, List.getElem_cons_zero, Act.put, List.setIfInBounds_toArray, List.set_cons_zero, List.set_cons_succ]
  refine wpAnyH_take (i := 2) (v := ?v2a) rfl (by kernel_rfl) (by kernel_rfl) (by kernel_rfl) (fun _ _ _ h => h) (Or.inl ⟨by rfl, ?y2a⟩) hS ?_
  case y2a => (intro w hSw; (try dsimp only at hSw); go_simp; (try with_reducible rfl))
  simp only [List.getElem_toArray, List.getElem_cons_succ, List.getElem_cons_zero, Act.put, List.setIfInBounds_toArray, List.set_cons_zero, List.set_cons_succ]
  refine wpAnyH_take (i := 3) (v := ?v3a) rfl (by kernel_rfl) (by kernel_rfl) (by kernel_rfl) (fun _ _ _ h => h) (Or.inl ⟨by rfl, ?y3a⟩) hS ?_
  case y3a => (intro w hSw; (try dsimp only at hSw); go_simp; (try with_reducible rfl))
  simp only [List.getElem_toArray, List.getElem_cons_succ, List.getElem_cons_zero, Act.put, List.setIfInBounds_toArray, List.set_cons_zero, List.set_cons_succ]
  refine wpAnyH_take (i := 4) (v := ?v4a) rfl (by kernel_rfl) (by kernel_rfl) (by kernel_rfl) (fun _ _ _ h => h) (Or.inl ⟨by rfl, ?y4a⟩) hS ?_
  case y4a => (intro w hSw; (try dsimp only at hSw); go_simp; (try with_reducible rfl))
  simp only [List.getElem_toArray, List.getElem_cons_succ, List.getElem_cons_zero, Act.put, List.setIfInBounds_toArray, List.set_cons_zero, List.set_cons_succ]
  refine wpAnyH_take (i := 5) (v := ?v5a) rfl (by kernel_rfl) (by kernel_rfl) (by kernel_rfl) (fun _ _ _ h => h) (Or.inl ⟨by rfl, ?y5a⟩) hS ?_
  case y5a => (intro w hSw; (try dsimp only at hSw); go_simp; (try with_reducible rfl))
  simp only [List.getElem_toArray, List.getElem_cons_succ, List.getElem_cons_zero, Act.put, List.setIfInBounds_toArray, List.set_cons_zero, List.set_cons_succ]
  refine wpAnyH_take (i := 6) (v := ?v6a) rfl (by kernel_rfl) (by kernel_rfl) (by kernel_rfl) (fun _ _ _ h => h) (Or.inl ⟨by rfl, ?y6a⟩) hS ?_
  case y6a => (intro w hSw; (try dsimp only at hSw); go_simp; (try with_reducible rfl))
  simp only [List.getElem_toArray, List.getElem_cons_succ, List.getElem_cons_zero, Act.put, List.setIfInBounds_toArray, List.set_cons_zero, List.set_cons_succ]
  refine wpAnyH_one (i := 7) (by kernel_rfl) rfl (fun K hK => ?_)
  go_simp
  refine (HH.out w.drew (Kp.drew [] w)).mono ?_
  rintro e w2 ⟨k2, rfl⟩
  have k02 := (Kp.drew [] w).trans k2
  have hS2 : (fun w' : World => w'.cell? ⟨mb, 9, none⟩ = some (.string (ba sp))) w2 := (k02.cell (p := ⟨mb, 9, none⟩) (World.block_lt_of_cell? _ _ C9.out) (by simp)).trans C9.out
  clear hS
  dsimp only
  refine hK.out _ _ hS2 ?_
  clear hK K
  have hS := hS2
  refine wpAnyH_take (i := 8) (v := ?v8a) rfl (by kernel_rfl) (by kernel_rfl) (by kernel_rfl) (fun _ _ _ h => h) (Or.inl ⟨by rfl, ?y8a⟩) hS ?_
  case y8a => (intro w hSw; (try dsimp only at hSw); go_simp; (try with_reducible rfl))
  simp only [List.getElem_toArray, List.getElem_cons_succ, List.getElem_cons_zero, Act.put, List.setIfInBounds_toArray, List.set_cons_zero, List.set_cons_succ]
  refine wpAnyH_take (i := 9) (v := ?v9a) rfl (by kernel_rfl) (by kernel_rfl) (by kernel_rfl) (fun _ _ _ h => h) (Or.inl ⟨by rfl, ?y9a⟩) hS ?_
  case y9a => (intro w hSw; (try dsimp only at hSw); go_simp; (try with_reducible rfl))
  simp only [List.getElem_toArray, List.getElem_cons_succ, List.getElem_cons_zero, Act.put, List.setIfInBounds_toArray, List.set_cons_zero, List.set_cons_succ]
  refine wpAnyH_take (i := 10) (v := ?v10a) rfl (by kernel_rfl) (by kernel_rfl) (by kernel_rfl) (fun _ _ _ h => h) (Or.inl ⟨by rfl, ?y10a⟩) hS ?_
  case y10a => (intro w hSw; (try dsimp only at hSw); go_simp; (try with_reducible rfl))
  simp only [List.getElem_toArray, List.getElem_cons_succ, List.getElem_cons_zero, Act.put, List.setIfInBounds_toArray, List.set_cons_zero, List.set_cons_succ]
  refine wpAnyH_take (i := 11) (v := ?v11a) rfl (by kernel_rfl) (by kernel_rfl) (by kernel_rfl) (fun _ _ _ h => h) (Or.inl ⟨by rfl, ?y11a⟩) hS ?_
  case y11a => (intro w hSw; (try dsimp only at hSw); go_simp; (try with_reducible rfl))
  simp only [List.getElem_toArray, List.getElem_cons_succ, List.getElem_cons_zero, Act.put, List.setIfInBounds_toArray, List.set_cons_zero, List.set_cons_succ]
  refine wpAnyH_take (i := 12) (v := ?v12a) rfl (by kernel_rfl) (by kernel_rfl) (by kernel_rfl) (fun _ _ _ h => h) (Or.inl ⟨by rfl, ?y12a⟩) hS ?_
  case y12a => (intro w hSw; (try dsimp only at hSw); go_simp; (try with_reducible rfl))
  simp only [List.getElem_toArray, List.getElem_cons_succ, List.getElem_cons_zero, Act.put, List.setIfInBounds_toArray, List.set_cons_zero, List.set_cons_succ]
  refine wpAnyH_done (by kernel_rfl) ?_ _
  refine NoPanic.normal ?_
  refine HK1.out _ _ ?_
  clear HK1 K1 hS hS2
  have M2 := hid (HM.out.keep k02)
  cases hok : ok with
  | false =>
    go_wp2_with fail
    refine bodyPost_ret (results_none rfl _ _ _) rfl ?_
    rw [show s.p.replaced T ok = s.p by rw [hok]; rfl]
    exact ⟨rfl, (Goes.refl M2.out).pre k02⟩
  | true =>
    have HB := hid (bounded_v (w := w2) (t := ba T) (by rw [ba_size]; exact hT))
    go_wp2_with fail
    refine HB.out.mono ?_
    rintro e w3 ⟨rfl, k3⟩
    have M3 := hid (M2.out.keep k3)
    have d9 := M3.out.b.at_ 9 _ rfl
    have f9 := M3.out.b.free 9
    have M4 : Hid (Mac w0 (w3.setCell ⟨mb, 9, none⟩ (.string (ba T))) mb sb db { s with space := ba T }) := hid (M3.out.set 9 _ (by omega) rfl rfl)
    have d15 := M4.out.b.at_ 15 _ rfl
    have f15 := M4.out.b.free 15
    have M5 : Hid (Mac w0 ((w3.setCell ⟨mb, 9, none⟩ (.string (ba T))).setCell ⟨mb, 15, none⟩ (.bool true)) mb sb db { s with space := ba T, repl := true }) := hid (M4.out.set 15 _ (by omega) rfl rfl)
    have hcm : ca ≠ mb := fun e => hn 0 (by rw [e]; rfl)
    have k5 : Kp [mb] w ((w3.setCell ⟨mb, 9, none⟩ (.string (ba T))).setCell ⟨mb, 15, none⟩ (.bool true)) := (k02.mono (by simp)).trans ((k3.mono (by simp)).trans ((Kp.setCell _ _ (by simp)).trans (Kp.setCell _ _ (by simp))))
    have o18 := (k5.cell (p := ⟨ca, co + 18, none⟩) (World.block_lt_of_cell? _ _ C18.out) (by simpa using hcm)).trans C18.out
    have o6 := (k5.cell (p := ⟨ca, co + 6, none⟩) (World.block_lt_of_cell? _ _ C6.out) (by simpa using hcm)).trans C6.out
    have K5 := hid k5
    clear k5
    go_wp2_with fail
    go_end0
    rw [show s.p.replaced T ok = ({ s with space := ba T, repl := true } : Mst).p by rw [hok]; rfl]
    refine ⟨rfl, _, rfl, M5.out, ?_⟩
    exact Gr.of_kp K5.out (fun x hx => ⟨0, by rw [List.mem_singleton.1 hx]; rfl⟩)
end
end Go.Proofs.YtonnimbcekhbgaaGreatDoor
