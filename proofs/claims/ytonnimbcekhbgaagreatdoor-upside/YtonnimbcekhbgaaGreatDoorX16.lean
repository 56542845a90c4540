/- What the claim needs of: HD. -/
import Derived.Test.YtonnimbcekhbgaaGreatDoorX15

/- HD. -/
namespace Go.Proofs.YtonnimbcekhbgaaGreatDoor
open Go.RowKit Go.MapKept

theorem Tryz.infoIntH : (Tryz.prog.info? 3).map (fun i => (i.zero, i.size, i.bytes)) = some (some (.int .i64 0), 1, 8) := by kernel_rfl
theorem Tryz.infoGoal : (Tryz.prog.info? 106).map (fun i => (i.zero, i.size, i.bytes)) = some (some (.agg #[.int .i64 0, .int .i64 0]), 2, 16) := by kernel_rfl
section
variable {w0 w : World} {b k : Nat} {src : ByteArray} {σ : Sst}

theorem own_some {base size n : Nat} {e : TypeId} {v : Value} {xs : List Value} (h : w.ownsRow base e size v n xs) (hn : 0 < n) : ∃ g cap, v = .slice (some ⟨g, 0, none⟩) n cap := by
  rcases h.2 with ⟨_, h0⟩ | ⟨g, cap, cur, hv, _⟩
  · omega
  · exact ⟨g, cap, hv⟩

def Opens (σ : Sst) (cv : List Value) (σ' : Sst) (cv' : List Value) : Prop := (∃ v, σ' = { σ with vb := v, bs := σ.bs ++ [σ.cs.length] }) ∧ cv' = cv

set_option maxRecDepth 100000 in
set_option maxHeartbeats 4000000 in
theorem op_open (h8 : σ.bs.length < 8) (_ : σ.cs.length ≤ 2000) : OpAt w0 67 b src k k σ Opens := by
  intro w cb cv hs hb hl _ hf _
  have hne : cb ≠ b := fun e => hf.bk 0 (by rw [e]; rfl)
  obtain ⟨A, c, ev, _, _⟩ := own_form hs.r.o8
  obtain ⟨A4, c4', ev4, _, _⟩ := own_form hs.r.o4
  have c8 := hs.c.c8
  rw [ev] at c8
  have q8 : ((σ.bs.length : Int) == 8) = false := by rw [beq_eq_false_iff_ne]; omega
  obtain ⟨i0, hi, hz0, hz1, hz2⟩ := info_parts Tryz.infoIntH
  have HI := hid (And.intro hi (And.intro hz0 (And.intro hz1 hz2)))
  clear hi hz0 hz1 hz2
  go_enter Tryz.func67, Tryz.ntmps67
  go_upto_region 2 with fail
  refine wp_region_T (fun w' : World => w'.cell? ⟨b, 8, none⟩ = some σ.vb ∧ w'.cell? ⟨b, 4, none⟩ = some (.slice A4 σ.cs.length c4')) 15 (by kernel_rfl) ?_
  have s3 := hs.keep (Kp.drew [] w)
  have b3 := hb.keep (Kp.drew [] w) (by simp)
  obtain ⟨w3, hw3⟩ : ∃ w3, w3 = w.drew := ⟨_, rfl⟩
  rw [← hw3] at s3 b3 ⊢
  clear hw3 hs hb c8
  have hS : (fun w' : World => w'.cell? ⟨b, 8, none⟩ = some σ.vb ∧ w'.cell? ⟨b, 4, none⟩ = some (.slice A4 σ.cs.length c4')) w3 := ⟨s3.c.c8, by rw [← ev4]; exact s3.c.c4⟩
  refine wpAnyT_take (i := 0) (v := ?v0) rfl (by kernel_rfl) (by kernel_rfl) (by kernel_rfl) (by kernel_rfl) (fun _ _ _ h => h) (Or.inl ⟨by rfl, ?y0⟩) hS ?_
  case y0 => (intro w hSw; (try dsimp only at hSw); go_simp; (try with_reducible rfl))
  simp only [List.getElem_toArray, List.getElem_cons_zero, Act.put, List.setIfInBounds_toArray, List.set_cons_zero, List.set_cons_succ]
  refine wpAnyT_take (i := 1) (v := ?v1) rfl (by kernel_rfl) (by kernel_rfl) (by kernel_rfl) (by kernel_rfl) (fun _ _ _ h => h) (Or.inl ⟨by rfl, ?y1⟩) hS ?_
  case y1 => (intro w hSw; (try dsimp only at hSw); go_simp; (try with_reducible rfl))
  simp only [List.getElem_toArray, List.getElem_cons_succ, List.getElem_cons_zero, Act.put, List.setIfInBounds_toArray, List.set_cons_zero, List.set_cons_succ]
  refine wpAnyT_take (i := 2) (v := ?v2) rfl (by kernel_rfl) (by kernel_rfl) (by kernel_rfl) (by kernel_rfl) (fun _ _ _ h => h) (Or.inl ⟨by rfl, ?y2⟩) hS ?_
  case y2 => (intro w hSw; (try dsimp only at hSw); go_simp; (try with_reducible rfl))
  simp only [List.getElem_toArray, List.getElem_cons_succ, List.getElem_cons_zero, Act.put, List.setIfInBounds_toArray, List.set_cons_zero, List.set_cons_succ]
  refine wpAnyT_take (i := 3) (v := ?v3) rfl (by kernel_rfl) (by kernel_rfl) (by kernel_rfl) (by kernel_rfl) (fun _ _ _ h => h) (Or.inl ⟨by rfl, ?y3⟩) hS ?_
  case y3 => (intro w hSw; (try dsimp only at hSw); go_simp; (try with_reducible rfl))
  simp only [List.getElem_toArray, List.getElem_cons_succ, List.getElem_cons_zero, Act.put, List.setIfInBounds_toArray, List.set_cons_zero, List.set_cons_succ]
  refine wpAnyT_take (i := 4) (v := ?v4) rfl (by kernel_rfl) (by kernel_rfl) (by kernel_rfl) (by kernel_rfl) (fun _ _ _ h => h) (Or.inl ⟨by rfl, ?y4⟩) hS ?_
  case y4 => (intro w hSw; (try dsimp only at hSw); go_simp; (try with_reducible rfl))
  simp only [List.getElem_toArray, List.getElem_cons_succ, List.getElem_cons_zero, Act.put, List.setIfInBounds_toArray, List.set_cons_zero, List.set_cons_succ]
  refine wpAnyT_take (i := 5) (v := ?v5) rfl (by kernel_rfl) (by kernel_rfl) (by kernel_rfl) (by kernel_rfl) (fun _ _ _ h => h) (Or.inl ⟨by rfl, ?y5⟩) hS ?_
  case y5 => (intro w hSw; (try dsimp only at hSw); go_simp; (try with_reducible rfl))
  simp only [List.getElem_toArray, List.getElem_cons_succ, List.getElem_cons_zero, Act.put, List.setIfInBounds_toArray, List.set_cons_zero, List.set_cons_succ]
  refine wpAnyT_take (i := 6) (v := ?v6) rfl (by kernel_rfl) (by kernel_rfl) (by kernel_rfl) (by kernel_rfl) (fun _ _ _ h => h) (Or.inl ⟨by rfl, ?y6⟩) hS ?_
  case y6 => (intro w hSw; (try dsimp only at hSw); go_simp; (try with_reducible rfl))
  simp only [List.getElem_toArray, List.getElem_cons_succ, List.getElem_cons_zero, Act.put, List.setIfInBounds_toArray, List.set_cons_zero, List.set_cons_succ]
  refine wpAnyT_take (i := 7) (v := ?v7) rfl (by kernel_rfl) (by kernel_rfl) (by kernel_rfl) (by kernel_rfl) (fun _ _ _ h => h) (Or.inl ⟨by rfl, ?y7⟩) hS ?_
  case y7 => (intro w hSw; (try dsimp only at hSw); go_simp; (try with_reducible rfl))
  simp only [List.getElem_toArray, List.getElem_cons_succ, List.getElem_cons_zero, Act.put, List.setIfInBounds_toArray, List.set_cons_zero, List.set_cons_succ]
  refine wpAnyT_take (i := 8) (v := ?v8) rfl (by kernel_rfl) (by kernel_rfl) (by kernel_rfl) (by kernel_rfl) (fun _ _ _ h => h) (Or.inl ⟨by rfl, ?y8⟩) hS ?_
  case y8 => (intro w hSw; (try dsimp only at hSw); go_simp; (try with_reducible rfl))
  simp only [List.getElem_toArray, List.getElem_cons_succ, List.getElem_cons_zero, Act.put, List.setIfInBounds_toArray, List.set_cons_zero, List.set_cons_succ]
  refine wpAnyT_take (i := 9) (v := ?v9) rfl (by kernel_rfl) (by kernel_rfl) (by kernel_rfl) (by kernel_rfl) (fun _ _ _ h => h) (Or.inl ⟨by rfl, ?y9⟩) hS ?_
  case y9 => (intro w hSw; (try dsimp only at hSw); go_simp; (try with_reducible rfl))
  simp only [List.getElem_toArray, List.getElem_cons_succ, List.getElem_cons_zero, Act.put, List.setIfInBounds_toArray, List.set_cons_zero, List.set_cons_succ]
  refine wpAnyT_take (i := 10) (v := ?v10) rfl (by kernel_rfl) (by kernel_rfl) (by kernel_rfl) (by kernel_rfl) (fun _ _ _ h => h) (Or.inl ⟨by rfl, ?y10⟩) hS ?_
  case y10 => (intro w hSw; (try dsimp only at hSw); go_simp; (try with_reducible rfl))
  simp only [List.getElem_toArray, List.getElem_cons_succ, List.getElem_cons_zero, Act.put, List.setIfInBounds_toArray, List.set_cons_zero, List.set_cons_succ]
  have ka := Kp.alloc [] w3 (.cells #[.int .i64 (σ.cs.length : Int)] 3)
  have s7 := s3.keep ka
  have b7 := b3.keep ka (by simp)
  have hS7 : (fun w' : World => w'.cell? ⟨b, 8, none⟩ = some σ.vb ∧ w'.cell? ⟨b, 4, none⟩ = some (.slice A4 σ.cs.length c4')) (w3.alloc (.cells #[.int .i64 (σ.cs.length : Int)] 3)) := ⟨s7.c.c8, by rw [← ev4]; exact s7.c.c4⟩
  have BN := Bl.alloc w3 [.int .i64 (σ.cs.length : Int)] 3
  refine wpAnyT_one (i := 11) (by kernel_rfl) rfl (fun K hK => ?_)
  go_simp
  refine hK.out _ _ (.inr hS7) ?_
  clear hK K
  refine wpAnyT_one (i := 12) (by kernel_rfl) rfl (fun K hK => ?_)
  refine step_app (by rfl) (.tmp 22) (.tmp 29) 22 (by rfl) w0.heap.size 3 i0 _ 1 8 Tryz.underlying22 HI.out.1 HI.out.2.1 HI.out.2.2.1 HI.out.2.2.2 rfl (by decide) σ.vb σ.bs.length (σ.bs.map fun n : Nat => Value.int .i64 (n : Int)) (by rw [ev]; rfl) s7.r.o8 ⟨w3.heap.size, 0, none⟩ 1 1 [.int .i64 (σ.cs.length : Int)] (by rfl) rfl (fun j u hu => by rw [Addr.add_mid, Nat.zero_add]; exact BN.at_ j u hu) (fun u hu => by simp at hu; subst hu; rfl) (by unfold maxLen; omega) (by omega) s7.r.kp.size (by omega) ?_
  intro g cap w8 ho8 hg8 hor8
  have blt := s7.cur.lt
  have hb2 : w8.heap[b]? = (w3.alloc (.cells #[.int .i64 (σ.cs.length : Int)] 3)).heap[b]? := hg8.block b blt (fun e => by have := s7.r.bk.ne 0 6 b rfl (by first | exact e | exact e.symm); omega)
  have hS8 : (fun w' : World => w'.cell? ⟨b, 8, none⟩ = some σ.vb ∧ w'.cell? ⟨b, 4, none⟩ = some (.slice A4 σ.cs.length c4')) w8 := ⟨(World.cell?_of_block hb2).trans hS7.1, (World.cell?_of_block hb2).trans hS7.2⟩
  have c8 := hS8.1
  have f8 : w8.frozen? ⟨b, 8, none⟩ = false := (World.frozen?_of_block hb2).trans (s7.cur.free 8)
  have s9 := s3.pushBlock (x := σ.cs.length) ka ho8 hg8 hor8
  have b8 : Bl w8 cb cv := b7.keep (kp_of_grown (S := σ.vb.ownBlock.toList) hg8 (fun p hp => by rw [hp]; simp)) (fun hm => hf.bk 6 (show σ.vb.ownBlock = some cb by simpa using hm))
  have b9 := b8.keep (Kp.setCell (S := [b]) (p := ⟨b, 8, none⟩) w8 (.slice (some ⟨g, 0, none⟩) (σ.bs.length + 1) cap) (by simp)) (by simpa using hne)
  have gfar : cb ≠ g := fun e => by
    rcases hor8 with q | q
    · exact hf.bk 6 (show σ.vb.ownBlock = some cb by rw [e]; exact q)
    · have := b7.lt; omega
  refine hK.out _ _ (.inr hS8) ?_
  clear hK K
  have S9 := hid s9
  have B9 := hid b9
  clear s9 b9 ho8 hg8 hor8 s3 b3 b7 b8 ka BN hb2 hS hS7 s7
  refine wpAnyT_one (i := 13) (by kernel_rfl) rfl (fun K hK => ?_)
  go_simp
  refine hK.out _ _ (.inr hS8) ?_
  clear hK K
  refine wpAnyT_one (i := 14) (by kernel_rfl) rfl (fun K hK => ?_)
  go_simp
  refine hK.out _ _ (.inr hS8) ?_
  clear hK K
  refine wpAnyT_one (i := 15) (by kernel_rfl) rfl (fun K hK => ?_)
  go_simp
  refine hK.out _ _ (.inl rfl) ?_
  clear hK K
  refine wpAnyT_done (by kernel_rfl) ?_ _
  have far' : Sr.Far w0 b { σ with vb := .slice (some ⟨g, 0, none⟩) (σ.bs.length + 1) cap, bs := σ.bs ++ [σ.cs.length] } cb := by
    refine ⟨hf.lo, fun i => ?_, hf.fx⟩
    rw [srB_pushBlock b σ ⟨g, 0, none⟩ (σ.bs.length + 1) cap (σ.bs ++ [σ.cs.length])]
    show (if i = 6 then some g else srB b σ i) ≠ _
    split
    · intro e; injection e with e; exact gfar e.symm
    · exact hf.bk i
  go_wp2_with fail
  go_end0
  exact ⟨rfl, _, S9.out, cv, B9.out, hl, far', ⟨_, rfl⟩, rfl⟩

/-- The last of the open blocks is shut: its { goes to here. -/
def Shuts (σ : Sst) (cv : List Value) (σ' : Sst) (cv' : List Value) : Prop := ∃ l i c v, σ.bs = l ++ [i] ∧ σ.cs[i]? = some c ∧ σ' = { σ with vb := v, bs := l, cs := σ.cs.set i (c.set 5 (.int .i64 (σ.cs.length : Int))) } ∧ cv' = cv

set_option maxRecDepth 100000 in
set_option maxHeartbeats 4000000 in
theorem op_shut {l : List Nat} {i : Nat} {c : List Value} (hbs : σ.bs = l ++ [i]) (hc : σ.cs[i]? = some c) (hcs : σ.cs.length ≤ 2000) (hls : l.length ≤ 8) : OpAt w0 68 b src k k σ Shuts := by
  intro w cb cv hs hb hl _ hf _
  have hne : cb ≠ b := fun e => hf.bk 0 (by rw [e]; rfl)
  obtain ⟨n, hn⟩ : ∃ n, n = l.length := ⟨_, rfl⟩
  have hbl : σ.bs.length = n + 1 := by rw [hbs, List.length_append, hn]; rfl
  obtain ⟨gb, c8', ev⟩ := own_some hs.r.o8 (by omega)
  have hilt : i < σ.cs.length := (List.getElem?_eq_some_iff.1 hc).1
  obtain ⟨g4, c4', ev4⟩ := own_some hs.r.o4 (by omega)
  have o8 := hs.r.o8
  rw [hbl] at ev o8
  rw [ev] at o8
  have hcap : n ≤ c8' := by
    rcases o8.2 with ⟨q, _⟩ | ⟨_, _, _, q, _, _, q4, _⟩
    · cases q
    · injection q with _ _ e3; omega
  have d8 : w.cell? ⟨gb, n, none⟩ = some (.int .i64 (i : Int)) := by
    rw [o8.cellAt n (by omega), hbs, List.map_append, List.getElem?_append_right (by simp [hn]), hn]
    simp
  have o4 := hs.r.o4
  rw [ev4] at o4
  obtain ⟨u5, d5⟩ : ∃ u, w.cell? ⟨g4, i * 23 + 5, none⟩ = some u := by
    have hlt : i * 23 + 5 < σ.cs.flatten.length := by rw [o4.1]; omega
    exact ⟨_, (o4.cellAt (i * 23 + 5) (by omega)).trans (List.getElem?_eq_getElem hlt)⟩
  have f5 := o4.frozenAt (i * 23 + 5)
  have wn := wrap_i64_nat n (by omega)
  obtain ⟨n1, hn1⟩ : ∃ n1, n1 = n + 1 := ⟨_, rfl⟩
  have en : (n1 : Int) - 1 = (n : Int) := by omega
  rw [← hn1] at ev
  have hnn : n < n1 := by omega
  have hn0 : ¬ (n : Int) < 0 := by omega
  have c8 := hs.c.c8
  rw [ev] at c8
  have HS := hid hs
  have HB := hid hb
  have HO := hid (And.intro ev ev4)
  have HN1 := hid (And.intro hn hn1)
  clear hs hb o8 o4 ev ev4 hn hn1 hbl
  go_enter Tryz.func68, Tryz.ntmps68
  go_upto_region 3 with fail
  refine wp_region_T (fun w' : World => w'.cell? ⟨b, 8, none⟩ = some (.slice (some ⟨gb, 0, none⟩) n1 c8') ∧ w'.cell? ⟨b, 4, none⟩ = some (.slice (some ⟨g4, 0, none⟩) σ.cs.length c4') ∧ w'.cell? ⟨gb, n, none⟩ = some (.int .i64 (i : Int))) 20 (by kernel_rfl) ?_
  have s3 := hid (HS.out.keep (Kp.drew [] w))
  have b3 := hid (HB.out.keep (Kp.drew [] w) (by simp))
  have hS : (fun w' : World => w'.cell? ⟨b, 8, none⟩ = some (.slice (some ⟨gb, 0, none⟩) n1 c8') ∧ w'.cell? ⟨b, 4, none⟩ = some (.slice (some ⟨g4, 0, none⟩) σ.cs.length c4') ∧ w'.cell? ⟨gb, n, none⟩ = some (.int .i64 (i : Int))) w.drew := ⟨c8, by have := HS.out.c.c4; rw [HO.out.2] at this; exact this, d8⟩
  have d5 : w.drew.cell? ⟨g4, i * 23 + 5, none⟩ = some u5 := d5
  have f5 : w.drew.frozen? ⟨g4, i * 23 + 5, none⟩ = false := f5
  obtain ⟨w3, hw3⟩ : ∃ w3, w3 = w.drew := ⟨_, rfl⟩
  rw [← hw3] at s3 b3 hS d5 f5 ⊢
  clear hw3 HS HB c8 d8
  refine wpAnyT_take (i := 0) (v := ?vs0) rfl (by kernel_rfl) (by kernel_rfl) (by kernel_rfl) (by kernel_rfl) (fun _ _ _ h => h) (Or.inl ⟨by rfl, ?ys0⟩) hS ?_
  case ys0 => (intro w hSw; (try dsimp only at hSw); go_simp; (try with_reducible rfl))
  simp only [List.getElem_toArray, List.getElem_cons_zero, Act.put, List.setIfInBounds_toArray, List.set_cons_zero, List.set_cons_succ]
  refine wpAnyT_take (i := 1) (v := ?vs1) rfl (by kernel_rfl) (by kernel_rfl) (by kernel_rfl) (by kernel_rfl) (fun _ _ _ h => h) (Or.inl ⟨by rfl, ?ys1⟩) hS ?_
  case ys1 => (intro w hSw; (try dsimp only at hSw); go_simp; (try with_reducible rfl))
  simp only [List.getElem_toArray, List.getElem_cons_succ, List.getElem_cons_zero, Act.put, List.setIfInBounds_toArray, List.set_cons_zero, List.set_cons_succ]
  refine wpAnyT_take (i := 2) (v := ?vs2) rfl (by kernel_rfl) (by kernel_rfl) (by kernel_rfl) (by kernel_rfl) (fun _ _ _ h => h) (Or.inl ⟨by rfl, ?ys2⟩) hS ?_
  case ys2 => (intro w hSw; (try dsimp only at hSw); go_simp; (try with_reducible rfl))
  simp only [List.getElem_toArray, List.getElem_cons_succ, List.getElem_cons_zero, Act.put, List.setIfInBounds_toArray, List.set_cons_zero, List.set_cons_succ]
  refine wpAnyT_take (i := 3) (v := ?vs3) rfl (by kernel_rfl) (by kernel_rfl) (by kernel_rfl) (by kernel_rfl) (fun _ _ _ h => h) (Or.inl ⟨by rfl, ?ys3⟩) hS ?_
  case ys3 => (intro w hSw; (try dsimp only at hSw); go_simp; (try with_reducible rfl))
  simp only [List.getElem_toArray, List.getElem_cons_succ, List.getElem_cons_zero, Act.put, List.setIfInBounds_toArray, List.set_cons_zero, List.set_cons_succ]
  refine wpAnyT_take (i := 4) (v := ?vs4) rfl (by kernel_rfl) (by kernel_rfl) (by kernel_rfl) (by kernel_rfl) (fun _ _ _ h => h) (Or.inl ⟨by rfl, ?ys4⟩) hS ?_
  case ys4 => (intro w hSw; (try dsimp only at hSw); go_simp; (try with_reducible rfl))
  simp only [List.getElem_toArray, List.getElem_cons_succ, List.getElem_cons_zero, Act.put, List.setIfInBounds_toArray, List.set_cons_zero, List.set_cons_succ]
  refine wpAnyT_take (i := 5) (v := ?vs5) rfl (by kernel_rfl) (by kernel_rfl) (by kernel_rfl) (by kernel_rfl) (fun _ _ _ h => h) (Or.inl ⟨by rfl, ?ys5⟩) hS ?_
  case ys5 => (intro w hSw; (try dsimp only at hSw); go_simp; (try with_reducible rfl))
  simp only [List.getElem_toArray, List.getElem_cons_succ, List.getElem_cons_zero, Act.put, List.setIfInBounds_toArray, List.set_cons_zero, List.set_cons_succ]
  refine wpAnyT_take (i := 6) (v := ?vs6) rfl (by kernel_rfl) (by kernel_rfl) (by kernel_rfl) (by kernel_rfl) (fun _ _ _ h => h) (Or.inl ⟨by rfl, ?ys6⟩) hS ?_
  case ys6 => (intro w hSw; (try dsimp only at hSw); go_simp; (try with_reducible rfl))
  simp only [List.getElem_toArray, List.getElem_cons_succ, List.getElem_cons_zero, Act.put, List.setIfInBounds_toArray, List.set_cons_zero, List.set_cons_succ]
  refine wpAnyT_take (i := 7) (v := ?vs7) rfl (by kernel_rfl) (by kernel_rfl) (by kernel_rfl) (by kernel_rfl) (fun _ _ _ h => h) (Or.inl ⟨by rfl, ?ys7⟩) hS ?_
  case ys7 => (intro w hSw; (try dsimp only at hSw); go_simp; (try with_reducible rfl))
  simp only [List.getElem_toArray, List.getElem_cons_succ, List.getElem_cons_zero, Act.put, List.setIfInBounds_toArray, List.set_cons_zero, List.set_cons_succ]
  refine wpAnyT_take (i := 8) (v := ?vs8) rfl (by kernel_rfl) (by kernel_rfl) (by kernel_rfl) (by kernel_rfl) (fun _ _ _ h => h) (Or.inl ⟨by rfl, ?ys8⟩) hS ?_
  case ys8 => (intro w hSw; (try dsimp only at hSw); go_simp; (try with_reducible rfl))
  simp only [List.getElem_toArray, List.getElem_cons_succ, List.getElem_cons_zero, Act.put, List.setIfInBounds_toArray, List.set_cons_zero, List.set_cons_succ]
  refine wpAnyT_take (i := 9) (v := ?vs9) rfl (by kernel_rfl) (by kernel_rfl) (by kernel_rfl) (by kernel_rfl) (fun _ _ _ h => h) (Or.inl ⟨by rfl, ?ys9⟩) hS ?_
  case ys9 => (intro w hSw; (try dsimp only at hSw); go_simp; (try with_reducible rfl))
  simp only [List.getElem_toArray, List.getElem_cons_succ, List.getElem_cons_zero, Act.put, List.setIfInBounds_toArray, List.set_cons_zero, List.set_cons_succ]
  refine wpAnyT_take (i := 10) (v := ?vs10) rfl (by kernel_rfl) (by kernel_rfl) (by kernel_rfl) (by kernel_rfl) (fun _ _ _ h => h) (Or.inl ⟨by rfl, ?ys10⟩) hS ?_
  case ys10 => (intro w hSw; (try dsimp only at hSw); go_simp; (try with_reducible rfl))
  simp only [List.getElem_toArray, List.getElem_cons_succ, List.getElem_cons_zero, Act.put, List.setIfInBounds_toArray, List.set_cons_zero, List.set_cons_succ]
  refine wpAnyT_take (i := 11) (v := ?vs11) rfl (by kernel_rfl) (by kernel_rfl) (by kernel_rfl) (by kernel_rfl) (fun _ _ _ h => h) (Or.inl ⟨by rfl, ?ys11⟩) hS ?_
  case ys11 => (intro w hSw; (try dsimp only at hSw); go_simp; (try with_reducible rfl))
  simp only [List.getElem_toArray, List.getElem_cons_succ, List.getElem_cons_zero, Act.put, List.setIfInBounds_toArray, List.set_cons_zero, List.set_cons_succ]
  refine wpAnyT_take (i := 12) (v := ?vs12) rfl (by kernel_rfl) (by kernel_rfl) (by kernel_rfl) (by kernel_rfl) (fun _ _ _ h => h) (Or.inl ⟨by rfl, ?ys12⟩) hS ?_
  case ys12 => (intro w hSw; (try dsimp only at hSw); go_simp; (try with_reducible rfl))
  simp only [List.getElem_toArray, List.getElem_cons_succ, List.getElem_cons_zero, Act.put, List.setIfInBounds_toArray, List.set_cons_zero, List.set_cons_succ]
  refine wpAnyT_take (i := 13) (v := ?vs13) rfl (by kernel_rfl) (by kernel_rfl) (by kernel_rfl) (by kernel_rfl) (fun _ _ _ h => h) (Or.inl ⟨by rfl, ?ys13⟩) hS ?_
  case ys13 => (intro w hSw; (try dsimp only at hSw); go_simp; (try with_reducible rfl))
  simp only [List.getElem_toArray, List.getElem_cons_succ, List.getElem_cons_zero, Act.put, List.setIfInBounds_toArray, List.set_cons_zero, List.set_cons_succ]
  refine wpAnyT_take (i := 14) (v := ?vs14) rfl (by kernel_rfl) (by kernel_rfl) (by kernel_rfl) (by kernel_rfl) (fun _ _ _ h => h) (Or.inl ⟨by rfl, ?ys14⟩) hS ?_
  case ys14 => (intro w hSw; (try dsimp only at hSw); go_simp; (try with_reducible rfl))
  simp only [List.getElem_toArray, List.getElem_cons_succ, List.getElem_cons_zero, Act.put, List.setIfInBounds_toArray, List.set_cons_zero, List.set_cons_succ]
  refine wpAnyT_take (i := 15) (v := ?vs15) rfl (by kernel_rfl) (by kernel_rfl) (by kernel_rfl) (by kernel_rfl) (fun _ _ _ h => h) (Or.inl ⟨by rfl, ?ys15⟩) hS ?_
  case ys15 => (intro w hSw; (try dsimp only at hSw); go_simp; (try with_reducible rfl))
  simp only [List.getElem_toArray, List.getElem_cons_succ, List.getElem_cons_zero, Act.put, List.setIfInBounds_toArray, List.set_cons_zero, List.set_cons_succ]
  refine wpAnyT_take (i := 16) (v := ?vs16) rfl (by kernel_rfl) (by kernel_rfl) (by kernel_rfl) (by kernel_rfl) (fun _ _ _ h => h) (Or.inl ⟨by rfl, ?ys16⟩) hS ?_
  case ys16 => (intro w hSw; (try dsimp only at hSw); go_simp; (try with_reducible rfl))
  simp only [List.getElem_toArray, List.getElem_cons_succ, List.getElem_cons_zero, Act.put, List.setIfInBounds_toArray, List.set_cons_zero, List.set_cons_succ]
  refine wpAnyT_take (i := 17) (v := ?vs17) rfl (by kernel_rfl) (by kernel_rfl) (by kernel_rfl) (by kernel_rfl) (fun _ _ _ h => h) (Or.inl ⟨by rfl, ?ys17⟩) hS ?_
  case ys17 => (intro w hSw; (try dsimp only at hSw); go_simp; (try with_reducible rfl))
  simp only [List.getElem_toArray, List.getElem_cons_succ, List.getElem_cons_zero, Act.put, List.setIfInBounds_toArray, List.set_cons_zero, List.set_cons_succ]
  refine wpAnyT_one (i := 18) (by kernel_rfl) rfl (fun K hK => ?_)
  go_simp
  refine hK.out _ _ (.inr hS) ?_
  clear hK K
  refine wpAnyT_one (i := 19) (by kernel_rfl) rfl (fun K hK => ?_)
  go_simp
  refine hK.out _ _ (.inr hS) ?_
  clear hK K
  have s4 := s3.out.setCmd (i := i) (j := 5) (v := .int .i64 (σ.cs.length : Int)) HO.out.2 hc (by omega) rfl
  have k4 : Kp [g4] w3 (w3.setCell ⟨g4, i * 23 + 5, none⟩ (.int .i64 (σ.cs.length : Int))) := Kp.setCell _ _ (by simp)
  have g4k : srB b σ 4 = some g4 := by show σ.vc.ownBlock = some g4; rw [HO.out.2]; rfl
  have b4 := b3.out.keep k4 (by have := hf.bk 4; rw [g4k] at this; simpa using fun e => this (by rw [e]))
  have S4 := hid s4
  have B4 := hid b4
  clear s4 b4 k4
  refine wpAnyT_one (i := 20) (by kernel_rfl) rfl (fun K hK => ?_)
  go_simp
  refine hK.out _ _ (.inl rfl) ?_
  clear hK K
  refine wpAnyT_done (by kernel_rfl) ?_ _
  obtain ⟨w4, hw4⟩ : ∃ w4, w4 = w3.setCell ⟨g4, i * 23 + 5, none⟩ (.int .i64 (σ.cs.length : Int)) := ⟨_, rfl⟩
  rw [← hw4] at S4 B4 ⊢
  clear hw4 hS d5 f5 s3 b3
  have e8 : w4.cell? ⟨b, 8, none⟩ = some σ.vb := S4.out.c.c8
  rw [HO.out.1] at e8
  have f8 := S4.out.cur.free 8
  have S5 := hid (S4.out.popBlock (A := some ⟨gb, 0, none⟩) (c := c8') (m := n) (l := l) (x := i) (by show σ.vb = _; rw [HO.out.1, HN1.out.2]) hbs HN1.out.1.symm)
  have B5 := hid (B4.out.keep (Kp.setCell (S := [b]) (p := ⟨b, 8, none⟩) w4 (.slice (some ⟨gb, 0, none⟩) n c8') (by simp)) (by simpa using hne))
  have far' : Hid (Sr.Far w0 b { σ with vb := .slice (some ⟨gb, 0, none⟩) n c8', bs := l, cs := σ.cs.set i (c.set 5 (.int .i64 (σ.cs.length : Int))) } cb) := hid (by
    refine ⟨hf.lo, fun q => ?_, hf.fx⟩
    have := hf.bk q
    rw [show srB b { σ with vb := .slice (some ⟨gb, 0, none⟩) n c8', bs := l, cs := σ.cs.set i (c.set 5 (.int .i64 (σ.cs.length : Int))) } = srB b σ from (srB_cut b { σ with cs := σ.cs.set i (c.set 5 (.int .i64 (σ.cs.length : Int))) } (some ⟨gb, 0, none⟩) n1 c8' n l HO.out.1).trans (by
      funext q
      rcases q with _ | _ | _ | _ | _ | _ | _ | _ | q <;> rfl)]
    exact this)
  go_wp2_with fail
  go_end0
  exact ⟨rfl, _, S5.out, cv, B5.out, hl, far'.out, l, i, c, _, hbs, hc, rfl, rfl⟩

/-- A label is read. -/
def Labels (x : ByteArray) (σ : Sst) (cv : List Value) (σ' : Sst) (cv' : List Value) : Prop := σ' = { σ with ls := σ.ls ++ [(x, σ.cs.length)] } ∧ cv' = cv.set 4 (.string x)

set_option maxRecDepth 100000 in
set_option maxHeartbeats 4000000 in
theorem op_label {n e : Nat} {x : ByteArray} (h : wdN src (blk src k) n (blk src k) = some e) (hx : src.extract (blk src k) e = x) (hfi : Instr.findNow .string (.string x) (strE 0 σ.ls) 0 = some none) (_ : σ.cs.length ≤ 2000) : OpAt w0 69 b src k e σ (Labels x) := by
  intro w cb cv hs hb hl _ hf _
  have hne : cb ≠ b := fun e => hf.bk 0 (by rw [e]; rfl)
  obtain ⟨A4, c4', ev4, _, _⟩ := own_form hs.r.o4
  have H := hid h
  have HX := hid hx
  have HFI := hid hfi
  clear h hx hfi
  go_enter Tryz.func69, Tryz.ntmps69
  go_wp2_with fail
  refine (word_v hs.cur H.out).mono ?_
  rintro r w1 ⟨rfl, h1, m1⟩
  rw [HX.out]
  have s1 := hs.move m1 h1
  have b1 := hb.keep m1.kp (by simpa using hne)
  have e4 := b1.at_ 4 _ (List.getElem?_eq_getElem (show 4 < cv.length by rw [hl.len]; omega))
  have f4 := b1.free 4
  clear hs hb m1 h1 H HX
  go_upto_region 1 with fail
  have k2 : Kp [cb] w1 (w1.setCell ⟨cb, 4, none⟩ (.string x)) := Kp.setCell _ _ (by simp)
  have s2 := s1.other k2 (fun y hy => by simp at hy; rw [hy]; exact hf)
  have b2 := b1.set 4 (.string x) (by rw [hl.len]; omega)
  have l2 : Cv (cv.set 4 (.string x)) := hl.set 4 rfl
  obtain ⟨w2, hw2⟩ : ∃ w2, w2 = w1.setCell ⟨cb, 4, none⟩ (.string x) := ⟨_, rfl⟩
  rw [← hw2] at s2 b2 ⊢
  clear hw2 k2 s1 b1 e4 f4 w1
  have c9 := s2.c.c9
  have e4 := b2.at_ 4 (.string x) (List.getElem?_set_self (by rw [hl.len]; omega))
  have hlk : ∀ m, (Instr.lookup 80 (.map (some σ.lb)) (.string x) true).run Tryz.prog (w2.drewN m) = .ok (.tuple #[.int .i64 0, .bool false]) (w2.drewN m) := fun m =>
    run_lookS Tryz.underlying80 Tryz.underlying9 (zero_int _) (((Kp.drewN [] w2 m).block _ (s2.r.bk.hi 2 _ rfl) (by simp)).trans s2.r.m9) HFI.out
  go_quiet (fail)
  have s3 := s2.keep (Kp.drewN [] w2 nq)
  have b3 := b2.keep (Kp.drewN [] w2 nq) (by simp)
  obtain ⟨w3, hw3⟩ : ∃ w3, w3 = w2.drewN nq := ⟨_, rfl⟩
  rw [← hw3] at s3 b3 ⊢
  clear hw3 hlk c9 e4 s2 b2
  go_upto_region 4 with fail
  refine wp_region_T (fun w' : World => w'.cell? ⟨b, 9, none⟩ = some (.map (some σ.lb)) ∧ w'.cell? ⟨cb, 4, none⟩ = some (.string x) ∧ w'.cell? ⟨b, 4, none⟩ = some (.slice A4 σ.cs.length c4')) 14 (by kernel_rfl) ?_
  have s4 := s3.keep (Kp.drew [] w3)
  have b4 := b3.keep (Kp.drew [] w3) (by simp)
  have hS : (fun w' : World => w'.cell? ⟨b, 9, none⟩ = some (.map (some σ.lb)) ∧ w'.cell? ⟨cb, 4, none⟩ = some (.string x) ∧ w'.cell? ⟨b, 4, none⟩ = some (.slice A4 σ.cs.length c4')) w3.drew := ⟨s4.c.c9, b4.at_ 4 (.string x) (List.getElem?_set_self (by rw [hl.len]; omega)), by rw [← ev4]; exact s4.c.c4⟩
  obtain ⟨w4, hw4⟩ : ∃ w4, w4 = w3.drew := ⟨_, rfl⟩
  rw [← hw4] at s4 b4 hS ⊢
  clear hw4 s3 b3
  refine wpAnyT_take (i := 0) (v := ?vl0) rfl (by kernel_rfl) (by kernel_rfl) (by kernel_rfl) (by kernel_rfl) (fun _ _ _ h => h) (Or.inl ⟨by rfl, ?yl0⟩) hS ?_
  case yl0 => (intro w hSw; (try dsimp only at hSw); go_simp; (try with_reducible rfl))
  simp only [List.getElem_toArray, List.getElem_cons_zero, Act.put, List.setIfInBounds_toArray, List.set_cons_zero, List.set_cons_succ]
  refine wpAnyT_take (i := 1) (v := ?vl1) rfl (by kernel_rfl) (by kernel_rfl) (by kernel_rfl) (by kernel_rfl) (fun _ _ _ h => h) (Or.inl ⟨by rfl, ?yl1⟩) hS ?_
  case yl1 => (intro w hSw; (try dsimp only at hSw); go_simp; (try with_reducible rfl))
  simp only [List.getElem_toArray, List.getElem_cons_succ, List.getElem_cons_zero, Act.put, List.setIfInBounds_toArray, List.set_cons_zero, List.set_cons_succ]
  refine wpAnyT_take (i := 2) (v := ?vl2) rfl (by kernel_rfl) (by kernel_rfl) (by kernel_rfl) (by kernel_rfl) (fun _ _ _ h => h) (Or.inl ⟨by rfl, ?yl2⟩) hS ?_
  case yl2 => (intro w hSw; (try dsimp only at hSw); go_simp; (try with_reducible rfl))
  simp only [List.getElem_toArray, List.getElem_cons_succ, List.getElem_cons_zero, Act.put, List.setIfInBounds_toArray, List.set_cons_zero, List.set_cons_succ]
  refine wpAnyT_take (i := 3) (v := ?vl3) rfl (by kernel_rfl) (by kernel_rfl) (by kernel_rfl) (by kernel_rfl) (fun _ _ _ h => h) (Or.inl ⟨by rfl, ?yl3⟩) hS ?_
  case yl3 => (intro w hSw; (try dsimp only at hSw); go_simp; (try with_reducible rfl))
  simp only [List.getElem_toArray, List.getElem_cons_succ, List.getElem_cons_zero, Act.put, List.setIfInBounds_toArray, List.set_cons_zero, List.set_cons_succ]
  refine wpAnyT_take (i := 4) (v := ?vl4) rfl (by kernel_rfl) (by kernel_rfl) (by kernel_rfl) (by kernel_rfl) (fun _ _ _ h => h) (Or.inl ⟨by rfl, ?yl4⟩) hS ?_
  case yl4 => (intro w hSw; (try dsimp only at hSw); go_simp; (try with_reducible rfl))
  simp only [List.getElem_toArray, List.getElem_cons_succ, List.getElem_cons_zero, Act.put, List.setIfInBounds_toArray, List.set_cons_zero, List.set_cons_succ]
  refine wpAnyT_take (i := 5) (v := ?vl5) rfl (by kernel_rfl) (by kernel_rfl) (by kernel_rfl) (by kernel_rfl) (fun _ _ _ h => h) (Or.inl ⟨by rfl, ?yl5⟩) hS ?_
  case yl5 => (intro w hSw; (try dsimp only at hSw); go_simp; (try with_reducible rfl))
  simp only [List.getElem_toArray, List.getElem_cons_succ, List.getElem_cons_zero, Act.put, List.setIfInBounds_toArray, List.set_cons_zero, List.set_cons_succ]
  refine wpAnyT_take (i := 6) (v := ?vl6) rfl (by kernel_rfl) (by kernel_rfl) (by kernel_rfl) (by kernel_rfl) (fun _ _ _ h => h) (Or.inl ⟨by rfl, ?yl6⟩) hS ?_
  case yl6 => (intro w hSw; (try dsimp only at hSw); go_simp; (try with_reducible rfl))
  simp only [List.getElem_toArray, List.getElem_cons_succ, List.getElem_cons_zero, Act.put, List.setIfInBounds_toArray, List.set_cons_zero, List.set_cons_succ]
  refine wpAnyT_take (i := 7) (v := ?vl7) rfl (by kernel_rfl) (by kernel_rfl) (by kernel_rfl) (by kernel_rfl) (fun _ _ _ h => h) (Or.inl ⟨by rfl, ?yl7⟩) hS ?_
  case yl7 => (intro w hSw; (try dsimp only at hSw); go_simp; (try with_reducible rfl))
  simp only [List.getElem_toArray, List.getElem_cons_succ, List.getElem_cons_zero, Act.put, List.setIfInBounds_toArray, List.set_cons_zero, List.set_cons_succ]
  refine wpAnyT_take (i := 8) (v := ?vl8) rfl (by kernel_rfl) (by kernel_rfl) (by kernel_rfl) (by kernel_rfl) (fun _ _ _ h => h) (Or.inl ⟨by rfl, ?yl8⟩) hS ?_
  case yl8 => (intro w hSw; (try dsimp only at hSw); go_simp; (try with_reducible rfl))
  simp only [List.getElem_toArray, List.getElem_cons_succ, List.getElem_cons_zero, Act.put, List.setIfInBounds_toArray, List.set_cons_zero, List.set_cons_succ]
  refine wpAnyT_take (i := 9) (v := ?vl9) rfl (by kernel_rfl) (by kernel_rfl) (by kernel_rfl) (by kernel_rfl) (fun _ _ _ h => h) (Or.inl ⟨by rfl, ?yl9⟩) hS ?_
  case yl9 => (intro w hSw; (try dsimp only at hSw); go_simp; (try with_reducible rfl))
  simp only [List.getElem_toArray, List.getElem_cons_succ, List.getElem_cons_zero, Act.put, List.setIfInBounds_toArray, List.set_cons_zero, List.set_cons_succ]
  refine wpAnyT_take (i := 10) (v := ?vl10) rfl (by kernel_rfl) (by kernel_rfl) (by kernel_rfl) (by kernel_rfl) (fun _ _ _ h => h) (Or.inl ⟨by rfl, ?yl10⟩) hS ?_
  case yl10 => (intro w hSw; (try dsimp only at hSw); go_simp; (try with_reducible rfl))
  simp only [List.getElem_toArray, List.getElem_cons_succ, List.getElem_cons_zero, Act.put, List.setIfInBounds_toArray, List.set_cons_zero, List.set_cons_succ]
  refine wpAnyT_take (i := 11) (v := ?vl11) rfl (by kernel_rfl) (by kernel_rfl) (by kernel_rfl) (by kernel_rfl) (fun _ _ _ h => h) (Or.inl ⟨by rfl, ?yl11⟩) hS ?_
  case yl11 => (intro w hSw; (try dsimp only at hSw); go_simp; (try with_reducible rfl))
  simp only [List.getElem_toArray, List.getElem_cons_succ, List.getElem_cons_zero, Act.put, List.setIfInBounds_toArray, List.set_cons_zero, List.set_cons_succ]
  refine wpAnyT_take (i := 12) (v := ?vl12) rfl (by kernel_rfl) (by kernel_rfl) (by kernel_rfl) (by kernel_rfl) (fun _ _ _ h => h) (Or.inl ⟨by rfl, ?yl12⟩) hS ?_
  case yl12 => (intro w hSw; (try dsimp only at hSw); go_simp; (try with_reducible rfl))
  simp only [List.getElem_toArray, List.getElem_cons_succ, List.getElem_cons_zero, Act.put, List.setIfInBounds_toArray, List.set_cons_zero, List.set_cons_succ]
  refine wpAnyT_take (i := 13) (v := ?vl13) rfl (by kernel_rfl) (by kernel_rfl) (by kernel_rfl) (by kernel_rfl) (fun _ _ _ h => h) (Or.inl ⟨by rfl, ?yl13⟩) hS ?_
  case yl13 => (intro w hSw; (try dsimp only at hSw); go_simp; (try with_reducible rfl))
  simp only [List.getElem_toArray, List.getElem_cons_succ, List.getElem_cons_zero, Act.put, List.setIfInBounds_toArray, List.set_cons_zero, List.set_cons_succ]
  have hput := run_putS (v := .int .i64 (σ.cs.length : Int)) Tryz.underlying80 Tryz.underlying9 s4.r.m9 HFI.out
  have kput := Kp.setBlock w4 σ.lb (.map ((strE 0 σ.ls).toArray.push ⟨.string x, .int .i64 (σ.cs.length : Int), σ.ls.length⟩) (σ.ls.length + 1))
  have hm5 : (ChangeMaps.setBlock w4 σ.lb (.map ((strE 0 σ.ls).toArray.push ⟨.string x, .int .i64 (σ.cs.length : Int), σ.ls.length⟩) (σ.ls.length + 1))).heap[σ.lb]? = some (strO (σ.ls ++ [(x, σ.cs.length)])) := by
    rw [strO_app]
    have := s4.r.bk.hi 2 σ.lb rfl
    simp [ChangeMaps.setBlock, this]
  have s5 := s4.putLabel σ.cs.length kput hm5
  have nbc : cb ≠ σ.lb := fun e => hf.bk 2 (by rw [e]; rfl)
  have b5 := b4.keep kput (by simpa using nbc)
  obtain ⟨w5, hw5⟩ : ∃ w5, w5 = ChangeMaps.setBlock w4 σ.lb (.map ((strE 0 σ.ls).toArray.push ⟨.string x, .int .i64 (σ.cs.length : Int), σ.ls.length⟩) (σ.ls.length + 1)) := ⟨_, rfl⟩
  rw [← hw5] at hput s5 b5
  clear hw5 hm5 kput
  refine wpAnyT_one (i := 14) (by kernel_rfl) rfl (fun K hK => ?_)
  go_simp
  refine hK.out _ _ (.inl rfl) ?_
  clear hK K
  refine wpAnyT_done (by kernel_rfl) ?_ _
  clear hput hS s4 b4
  go_wp2_with fail
  go_end0
  exact ⟨_, _, rfl, s5, b5, l2, ⟨hf.lo, fun i => by rw [srB_ls]; exact hf.bk i, hf.fx⟩, rfl, rfl⟩

/-- A label to go to is read. -/
def GoesTo (x : ByteArray) (pl : Nat) (σ : Sst) (cv : List Value) (σ' : Sst) (cv' : List Value) : Prop := (∃ v, σ' = { σ with vg := v, gs := σ.gs ++ [(σ.cs.length, pl)] }) ∧ cv' = cv.set 4 (.string x)

set_option maxRecDepth 100000 in
set_option maxHeartbeats 4000000 in
theorem op_branch {n e pl : Nat} {x : ByteArray} (hw : isW src (blk src k) = true) (h : wdN src (blk src (blk src k)) n (blk src (blk src k)) = some e) (hx : src.extract (blk src (blk src k)) e = x) (hpl : pl + x.size = e) (he : e ≤ 2000) (_ : σ.cs.length ≤ 2000) (hgs : σ.gs.length ≤ 100) : OpAt w0 70 b src k e σ (GoesTo x pl) := by
  intro w cb cv hs hb hl _ hf _
  have hne : cb ≠ b := fun e => hf.bk 0 (by rw [e]; rfl)
  obtain ⟨A4, c4', ev4, _, _⟩ := own_form hs.r.o4
  obtain ⟨A, c', ev, _, _⟩ := own_form hs.r.o11
  have H := hid h
  have HX := hid hx
  clear h hx
  obtain ⟨i0, hi, hz0, hz1, hz2⟩ := info_parts Tryz.infoGoal
  have HI := hid (And.intro hi (And.intro hz0 (And.intro hz1 hz2)))
  clear hi hz0 hz1 hz2
  go_enter Tryz.func70, Tryz.ntmps70
  go_wp2_with fail
  refine (blanks_v hs.cur).mono ?_
  rintro r w1 ⟨rfl, h1, m1⟩
  go_wp2_with fail
  refine (seesWord_v h1 hw).mono ?_
  rintro r w2 ⟨rfl, h2, m2⟩
  go_wp2_with fail
  refine (word_v h2 H.out).mono ?_
  rintro r w3 ⟨rfl, h3, m3⟩
  rw [HX.out]
  have m13 := m1.trans (m2.trans m3)
  have s1 := hs.move m13 h3
  have b1 := hb.keep m13.kp (by simpa using hne)
  have e4 := b1.at_ 4 _ (List.getElem?_eq_getElem (show 4 < cv.length by rw [hl.len]; omega))
  have f4 := b1.free 4
  clear hs hb m1 h1 m2 h2 m3 h3 m13 H HX
  go_upto_region 3 with fail
  have k2 : Kp [cb] w3 (w3.setCell ⟨cb, 4, none⟩ (.string x)) := Kp.setCell _ _ (by simp)
  have s2 := s1.other k2 (fun y hy => by simp at hy; rw [hy]; exact hf)
  have b2 := b1.set 4 (.string x) (by rw [hl.len]; omega)
  have l2 : Cv (cv.set 4 (.string x)) := hl.set 4 rfl
  obtain ⟨w4, hw4⟩ : ∃ w4, w4 = w3.setCell ⟨cb, 4, none⟩ (.string x) := ⟨_, rfl⟩
  rw [← hw4] at s2 b2 ⊢
  clear hw4 k2 s1 b1 e4 f4 w3
  refine wp_region_T (fun w' : World => w'.cell? ⟨b, 11, none⟩ = some σ.vg ∧ w'.cell? ⟨b, 4, none⟩ = some (.slice A4 σ.cs.length c4') ∧ w'.cell? ⟨b, 1, none⟩ = some (.int .i64 (e : Int)) ∧ w'.cell? ⟨cb, 4, none⟩ = some (.string x)) 27 (by kernel_rfl) ?_
  have s3 := s2.keep (Kp.drew [] w4)
  have b3 := b2.keep (Kp.drew [] w4) (by simp)
  obtain ⟨w5, hw5⟩ : ∃ w5, w5 = w4.drew := ⟨_, rfl⟩
  rw [← hw5] at s3 b3 ⊢
  clear hw5 s2 b2
  have hS : (fun w' : World => w'.cell? ⟨b, 11, none⟩ = some σ.vg ∧ w'.cell? ⟨b, 4, none⟩ = some (.slice A4 σ.cs.length c4') ∧ w'.cell? ⟨b, 1, none⟩ = some (.int .i64 (e : Int)) ∧ w'.cell? ⟨cb, 4, none⟩ = some (.string x)) w5 := ⟨s3.c.c11, by rw [← ev4]; exact s3.c.c4, s3.cur.c1, b3.at_ 4 (.string x) (List.getElem?_set_self (by rw [hl.len]; omega))⟩
  have hsub : (e : Int) - (x.size : Int) = (pl : Int) := by omega
  have wp := wrap_i64_nat pl (by omega)
  refine wpAnyT_take (i := 0) (v := ?vb0) rfl (by kernel_rfl) (by kernel_rfl) (by kernel_rfl) (by kernel_rfl) (fun _ _ _ h => h) (Or.inl ⟨by rfl, ?yb0⟩) hS ?_
  case yb0 => (intro w hSw; (try dsimp only at hSw); go_simp; (try with_reducible rfl))
  simp only [List.getElem_toArray, List.getElem_cons_zero, Act.put, List.setIfInBounds_toArray, List.set_cons_zero, List.set_cons_succ]
  refine wpAnyT_take (i := 1) (v := ?vb1) rfl (by kernel_rfl) (by kernel_rfl) (by kernel_rfl) (by kernel_rfl) (fun _ _ _ h => h) (Or.inl ⟨by rfl, ?yb1⟩) hS ?_
  case yb1 => (intro w hSw; (try dsimp only at hSw); go_simp; (try with_reducible rfl))
  simp only [List.getElem_toArray, List.getElem_cons_succ, List.getElem_cons_zero, Act.put, List.setIfInBounds_toArray, List.set_cons_zero, List.set_cons_succ]
  refine wpAnyT_take (i := 2) (v := ?vb2) rfl (by kernel_rfl) (by kernel_rfl) (by kernel_rfl) (by kernel_rfl) (fun _ _ _ h => h) (Or.inl ⟨by rfl, ?yb2⟩) hS ?_
  case yb2 => (intro w hSw; (try dsimp only at hSw); go_simp; (try with_reducible rfl))
  simp only [List.getElem_toArray, List.getElem_cons_succ, List.getElem_cons_zero, Act.put, List.setIfInBounds_toArray, List.set_cons_zero, List.set_cons_succ]
  refine wpAnyT_take (i := 3) (v := ?vb3) rfl (by kernel_rfl) (by kernel_rfl) (by kernel_rfl) (by kernel_rfl) (fun _ _ _ h => h) (Or.inl ⟨by rfl, ?yb3⟩) hS ?_
  case yb3 => (intro w hSw; (try dsimp only at hSw); go_simp; (try with_reducible rfl))
  simp only [List.getElem_toArray, List.getElem_cons_succ, List.getElem_cons_zero, Act.put, List.setIfInBounds_toArray, List.set_cons_zero, List.set_cons_succ]
  refine wpAnyT_take (i := 4) (v := ?vb4) rfl (by kernel_rfl) (by kernel_rfl) (by kernel_rfl) (by kernel_rfl) (fun _ _ _ h => h) (Or.inl ⟨by rfl, ?yb4⟩) hS ?_
  case yb4 => (intro w hSw; (try dsimp only at hSw); go_simp; (try with_reducible rfl))
  simp only [List.getElem_toArray, List.getElem_cons_succ, List.getElem_cons_zero, Act.put, List.setIfInBounds_toArray, List.set_cons_zero, List.set_cons_succ]
  refine wpAnyT_take (i := 5) (v := ?vb5) rfl (by kernel_rfl) (by kernel_rfl) (by kernel_rfl) (by kernel_rfl) (fun _ _ _ h => h) (Or.inl ⟨by rfl, ?yb5⟩) hS ?_
  case yb5 => (intro w hSw; (try dsimp only at hSw); go_simp; (try with_reducible rfl))
  simp only [List.getElem_toArray, List.getElem_cons_succ, List.getElem_cons_zero, Act.put, List.setIfInBounds_toArray, List.set_cons_zero, List.set_cons_succ]
  refine wpAnyT_take (i := 6) (v := ?vb6) rfl (by kernel_rfl) (by kernel_rfl) (by kernel_rfl) (by kernel_rfl) (fun _ _ _ h => h) (Or.inl ⟨by rfl, ?yb6⟩) hS ?_
  case yb6 => (intro w hSw; (try dsimp only at hSw); go_simp; (try with_reducible rfl))
  simp only [List.getElem_toArray, List.getElem_cons_succ, List.getElem_cons_zero, Act.put, List.setIfInBounds_toArray, List.set_cons_zero, List.set_cons_succ]
  refine wpAnyT_take (i := 7) (v := ?vb7) rfl (by kernel_rfl) (by kernel_rfl) (by kernel_rfl) (by kernel_rfl) (fun _ _ _ h => h) (Or.inl ⟨by rfl, ?yb7⟩) hS ?_
  case yb7 => (intro w hSw; (try dsimp only at hSw); go_simp; (try with_reducible rfl))
  simp only [List.getElem_toArray, List.getElem_cons_succ, List.getElem_cons_zero, Act.put, List.setIfInBounds_toArray, List.set_cons_zero, List.set_cons_succ]
  refine wpAnyT_take (i := 8) (v := ?vb8) rfl (by kernel_rfl) (by kernel_rfl) (by kernel_rfl) (by kernel_rfl) (fun _ _ _ h => h) (Or.inl ⟨by rfl, ?yb8⟩) hS ?_
  case yb8 => (intro w hSw; (try dsimp only at hSw); go_simp; (try with_reducible rfl))
  simp only [List.getElem_toArray, List.getElem_cons_succ, List.getElem_cons_zero, Act.put, List.setIfInBounds_toArray, List.set_cons_zero, List.set_cons_succ]
  refine wpAnyT_take (i := 9) (v := ?vb9) rfl (by kernel_rfl) (by kernel_rfl) (by kernel_rfl) (by kernel_rfl) (fun _ _ _ h => h) (Or.inl ⟨by rfl, ?yb9⟩) hS ?_
  case yb9 => (intro w hSw; (try dsimp only at hSw); go_simp; (try with_reducible rfl))
  simp only [List.getElem_toArray, List.getElem_cons_succ, List.getElem_cons_zero, Act.put, List.setIfInBounds_toArray, List.set_cons_zero, List.set_cons_succ]
  refine wpAnyT_take (i := 10) (v := ?vb10) rfl (by kernel_rfl) (by kernel_rfl) (by kernel_rfl) (by kernel_rfl) (fun _ _ _ h => h) (Or.inl ⟨by rfl, ?yb10⟩) hS ?_
  case yb10 => (intro w hSw; (try dsimp only at hSw); go_simp; (try with_reducible rfl))
  simp only [List.getElem_toArray, List.getElem_cons_succ, List.getElem_cons_zero, Act.put, List.setIfInBounds_toArray, List.set_cons_zero, List.set_cons_succ]
  refine wpAnyT_take (i := 11) (v := ?vb11) rfl (by kernel_rfl) (by kernel_rfl) (by kernel_rfl) (by kernel_rfl) (fun _ _ _ h => h) (Or.inl ⟨by rfl, ?yb11⟩) hS ?_
  case yb11 => (intro w hSw; (try dsimp only at hSw); go_simp; (try with_reducible rfl))
  simp only [List.getElem_toArray, List.getElem_cons_succ, List.getElem_cons_zero, Act.put, List.setIfInBounds_toArray, List.set_cons_zero, List.set_cons_succ]
  refine wpAnyT_take (i := 12) (v := ?vb12) rfl (by kernel_rfl) (by kernel_rfl) (by kernel_rfl) (by kernel_rfl) (fun _ _ _ h => h) (Or.inl ⟨by rfl, ?yb12⟩) hS ?_
  case yb12 => (intro w hSw; (try dsimp only at hSw); go_simp; (try with_reducible rfl))
  simp only [List.getElem_toArray, List.getElem_cons_succ, List.getElem_cons_zero, Act.put, List.setIfInBounds_toArray, List.set_cons_zero, List.set_cons_succ]
  refine wpAnyT_take (i := 13) (v := ?vb13) rfl (by kernel_rfl) (by kernel_rfl) (by kernel_rfl) (by kernel_rfl) (fun _ _ _ h => h) (Or.inl ⟨by rfl, ?yb13⟩) hS ?_
  case yb13 => (intro w hSw; (try dsimp only at hSw); go_simp; (try with_reducible rfl))
  simp only [List.getElem_toArray, List.getElem_cons_succ, List.getElem_cons_zero, Act.put, List.setIfInBounds_toArray, List.set_cons_zero, List.set_cons_succ]
  refine wpAnyT_take (i := 14) (v := ?vb14) rfl (by kernel_rfl) (by kernel_rfl) (by kernel_rfl) (by kernel_rfl) (fun _ _ _ h => h) (Or.inl ⟨by rfl, ?yb14⟩) hS ?_
  case yb14 => (intro w hSw; (try dsimp only at hSw); go_simp; (try with_reducible rfl))
  simp only [List.getElem_toArray, List.getElem_cons_succ, List.getElem_cons_zero, Act.put, List.setIfInBounds_toArray, List.set_cons_zero, List.set_cons_succ]
  refine wpAnyT_take (i := 15) (v := ?vb15) rfl (by kernel_rfl) (by kernel_rfl) (by kernel_rfl) (by kernel_rfl) (fun _ _ _ h => h) (Or.inl ⟨by rfl, ?yb15⟩) hS ?_
  case yb15 => (intro w hSw; (try dsimp only at hSw); go_simp; (try with_reducible rfl))
  simp only [List.getElem_toArray, List.getElem_cons_succ, List.getElem_cons_zero, Act.put, List.setIfInBounds_toArray, List.set_cons_zero, List.set_cons_succ]
  refine wpAnyT_take (i := 16) (v := ?vb16) rfl (by kernel_rfl) (by kernel_rfl) (by kernel_rfl) (by kernel_rfl) (fun _ _ _ h => h) (Or.inl ⟨by rfl, ?yb16⟩) hS ?_
  case yb16 => (intro w hSw; (try dsimp only at hSw); go_simp; (try with_reducible rfl))
  simp only [List.getElem_toArray, List.getElem_cons_succ, List.getElem_cons_zero, Act.put, List.setIfInBounds_toArray, List.set_cons_zero, List.set_cons_succ]
  refine wpAnyT_take (i := 17) (v := ?vb17) rfl (by kernel_rfl) (by kernel_rfl) (by kernel_rfl) (by kernel_rfl) (fun _ _ _ h => h) (Or.inl ⟨by rfl, ?yb17⟩) hS ?_
  case yb17 => (intro w hSw; (try dsimp only at hSw); go_simp; (try with_reducible rfl))
  simp only [List.getElem_toArray, List.getElem_cons_succ, List.getElem_cons_zero, Act.put, List.setIfInBounds_toArray, List.set_cons_zero, List.set_cons_succ]
  refine wpAnyT_take (i := 18) (v := ?vb18) rfl (by kernel_rfl) (by kernel_rfl) (by kernel_rfl) (by kernel_rfl) (fun _ _ _ h => h) (Or.inl ⟨by rfl, ?yb18⟩) hS ?_
  case yb18 => (intro w hSw; (try dsimp only at hSw); go_simp; (try with_reducible rfl))
  simp only [List.getElem_toArray, List.getElem_cons_succ, List.getElem_cons_zero, Act.put, List.setIfInBounds_toArray, List.set_cons_zero, List.set_cons_succ]
  refine wpAnyT_take (i := 19) (v := ?vb19) rfl (by kernel_rfl) (by kernel_rfl) (by kernel_rfl) (by kernel_rfl) (fun _ _ _ h => h) (Or.inl ⟨by rfl, ?yb19⟩) hS ?_
  case yb19 => (intro w hSw; (try dsimp only at hSw); go_simp; (try with_reducible rfl))
  simp only [List.getElem_toArray, List.getElem_cons_succ, List.getElem_cons_zero, Act.put, List.setIfInBounds_toArray, List.set_cons_zero, List.set_cons_succ]
  refine wpAnyT_take (i := 20) (v := ?vb20) rfl (by kernel_rfl) (by kernel_rfl) (by kernel_rfl) (by kernel_rfl) (fun _ _ _ h => h) (Or.inl ⟨by rfl, ?yb20⟩) hS ?_
  case yb20 => (intro w hSw; (try dsimp only at hSw); go_simp; (try with_reducible rfl))
  simp only [List.getElem_toArray, List.getElem_cons_succ, List.getElem_cons_zero, Act.put, List.setIfInBounds_toArray, List.set_cons_zero, List.set_cons_succ]
  refine wpAnyT_take (i := 21) (v := ?vb21) rfl (by kernel_rfl) (by kernel_rfl) (by kernel_rfl) (by kernel_rfl) (fun _ _ _ h => h) (Or.inl ⟨by rfl, ?yb21⟩) hS ?_
  case yb21 => (intro w hSw; (try dsimp only at hSw); go_simp; (try with_reducible rfl))
  simp only [List.getElem_toArray, List.getElem_cons_succ, List.getElem_cons_zero, Act.put, List.setIfInBounds_toArray, List.set_cons_zero, List.set_cons_succ]
  refine wpAnyT_take (i := 22) (v := ?vb22) rfl (by kernel_rfl) (by kernel_rfl) (by kernel_rfl) (by kernel_rfl) (fun _ _ _ h => h) (Or.inl ⟨by rfl, ?yb22⟩) hS ?_
  case yb22 => (intro w hSw; (try dsimp only at hSw); go_simp; (try with_reducible rfl))
  simp only [List.getElem_toArray, List.getElem_cons_succ, List.getElem_cons_zero, Act.put, List.setIfInBounds_toArray, List.set_cons_zero, List.set_cons_succ]
  have ka := Kp.alloc [] w5 (.cells #[.int .i64 (σ.cs.length : Int), .int .i64 (pl : Int)] 106)
  have s7 := s3.keep ka
  have b7 := b3.keep ka (by simp)
  have hS7 : (fun w' : World => w'.cell? ⟨b, 11, none⟩ = some σ.vg ∧ w'.cell? ⟨b, 4, none⟩ = some (.slice A4 σ.cs.length c4') ∧ w'.cell? ⟨b, 1, none⟩ = some (.int .i64 (e : Int)) ∧ w'.cell? ⟨cb, 4, none⟩ = some (.string x)) (w5.alloc (.cells #[.int .i64 (σ.cs.length : Int), .int .i64 (pl : Int)] 106)) := ⟨s7.c.c11, by rw [← ev4]; exact s7.c.c4, s7.cur.c1, b7.at_ 4 (.string x) (List.getElem?_set_self (by rw [hl.len]; omega))⟩
  have BN := Bl.alloc w5 [.int .i64 (σ.cs.length : Int), .int .i64 (pl : Int)] 106
  refine wpAnyT_one (i := 23) (by kernel_rfl) rfl (fun K hK => ?_)
  go_simp
  refine hK.out _ _ (.inr hS7) ?_
  clear hK K
  refine wpAnyT_one (i := 24) (by kernel_rfl) rfl (fun K hK => ?_)
  refine step_app (by rfl) (.tmp 17) (.tmp 36) 81 (by rfl) w0.heap.size 106 i0 _ 2 16 Tryz.underlying81 HI.out.1 HI.out.2.1 HI.out.2.2.1 HI.out.2.2.2 rfl (by decide) σ.vg σ.gs.length (σ.gs.flatMap fun p : Nat × Nat => [Value.int .i64 (p.1 : Int), .int .i64 (p.2 : Int)]) (by rw [ev]; rfl) s7.r.o11 ⟨w5.heap.size, 0, none⟩ 1 1 [.int .i64 (σ.cs.length : Int), .int .i64 (pl : Int)] (by rfl) rfl (fun j u hu => by rw [Addr.add_mid, Nat.zero_add]; exact BN.at_ j u hu) (fun u hu => by simp at hu; rcases hu with rfl | rfl <;> rfl) (by unfold maxLen; omega) (by omega) s7.r.kp.size (by omega) ?_
  intro g cap w8 ho8 hg8 hor8
  have blt := s7.cur.lt
  have hb2 : w8.heap[b]? = (w5.alloc (.cells #[.int .i64 (σ.cs.length : Int), .int .i64 (pl : Int)] 106)).heap[b]? := hg8.block b blt (fun e => by have := s7.r.bk.ne 0 7 b rfl (by first | exact e | exact e.symm); omega)
  have hb3 : w8.heap[cb]? = (w5.alloc (.cells #[.int .i64 (σ.cs.length : Int), .int .i64 (pl : Int)] 106)).heap[cb]? := hg8.block cb b7.lt (fun e => hf.bk 7 (by first | exact e | exact e.symm))
  have hS8 : (fun w' : World => w'.cell? ⟨b, 11, none⟩ = some σ.vg ∧ w'.cell? ⟨b, 4, none⟩ = some (.slice A4 σ.cs.length c4') ∧ w'.cell? ⟨b, 1, none⟩ = some (.int .i64 (e : Int)) ∧ w'.cell? ⟨cb, 4, none⟩ = some (.string x)) w8 := ⟨(World.cell?_of_block hb2).trans hS7.1, (World.cell?_of_block hb2).trans hS7.2.1, (World.cell?_of_block hb2).trans hS7.2.2.1, (World.cell?_of_block hb3).trans hS7.2.2.2⟩
  have c11 := hS8.1
  have f11 : w8.frozen? ⟨b, 11, none⟩ = false := (World.frozen?_of_block hb2).trans (s7.cur.free 11)
  have s9 := s3.pushGoal (x := (σ.cs.length, pl)) ka ho8 hg8 hor8
  have b8 : Bl w8 cb (cv.set 4 (.string x)) := b7.keep (kp_of_grown (S := σ.vg.ownBlock.toList) hg8 (fun p hp => by rw [hp]; simp)) (fun hm => hf.bk 7 (show σ.vg.ownBlock = some cb by simpa using hm))
  have b9 := b8.keep (Kp.setCell (S := [b]) (p := ⟨b, 11, none⟩) w8 (.slice (some ⟨g, 0, none⟩) (σ.gs.length + 1) cap) (by simp)) (by simpa using hne)
  have gfar : cb ≠ g := fun e => by
    rcases hor8 with q | q
    · exact hf.bk 7 (show σ.vg.ownBlock = some cb by rw [e]; exact q)
    · have := b7.lt; omega
  refine hK.out _ _ (.inr hS8) ?_
  clear hK K
  have S9 := hid s9
  have B9 := hid b9
  clear s9 b9 ho8 hg8 hor8 s3 b3 b7 b8 ka BN hb2 hb3 hS hS7 s7
  refine wpAnyT_one (i := 25) (by kernel_rfl) rfl (fun K hK => ?_)
  go_simp
  refine hK.out _ _ (.inr hS8) ?_
  clear hK K
  refine wpAnyT_one (i := 26) (by kernel_rfl) rfl (fun K hK => ?_)
  go_simp
  refine hK.out _ _ (.inr hS8) ?_
  clear hK K
  refine wpAnyT_one (i := 27) (by kernel_rfl) rfl (fun K hK => ?_)
  go_simp
  refine hK.out _ _ (.inl rfl) ?_
  clear hK K
  refine wpAnyT_done (by kernel_rfl) ?_ _
  have far' : Sr.Far w0 b { σ with vg := .slice (some ⟨g, 0, none⟩) (σ.gs.length + 1) cap, gs := σ.gs ++ [(σ.cs.length, pl)] } cb := by
    refine ⟨hf.lo, fun i => ?_, hf.fx⟩
    rw [srB_pushGoal b σ ⟨g, 0, none⟩ (σ.gs.length + 1) cap (σ.gs ++ [(σ.cs.length, pl)])]
    show (if i = 7 then some g else srB b σ i) ≠ _
    split
    · intro e; injection e with e; exact gfar e.symm
    · exact hf.bk i
  go_wp2_with fail
  go_end0
  exact ⟨rfl, _, S9.out, _, B9.out, l2, far', ⟨_, rfl⟩, rfl⟩
end
end Go.Proofs.YtonnimbcekhbgaaGreatDoor
