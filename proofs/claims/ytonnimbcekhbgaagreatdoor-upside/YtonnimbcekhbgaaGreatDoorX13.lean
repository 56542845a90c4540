/- What the claim needs of: FD. -/
import Derived.Test.YtonnimbcekhbgaaGreatDoorX11

/- FD. -/
namespace Go.Proofs.YtonnimbcekhbgaaGreatDoor
open Go.RowKit

theorem Tryz.infoBytes : (Tryz.prog.info? 34).map (fun i => (i.zero, i.size, i.bytes)) = some (some (.slice none 0 0), 1, 24) := by kernel_rfl
theorem Tryz.infoBool : (Tryz.prog.info? 4).map (fun i => (i.zero, i.size, i.bytes)) = some (some (.bool false), 1, 1) := by kernel_rfl

set_option maxRecDepth 100000 in
set_option maxHeartbeats 8000000 in
theorem new_v {w : World} {sb lo hi : Nat} {σ : Sst} {ah : Bool} (hs : Scr lo hi w sb 0 σ) (hah : ∀ wx, Kp [] w wx → Calls Tryz.prog 28 #[.pointer (some ⟨sb, 0, none⟩)] wx fun r w' => r = .returned (.bool ah) ∧ Kp [] wx w') (hn : σ.ns.length ≤ 2000) (hrg : σ.ranges ≤ 2000) :
    Calls Tryz.prog 20 #[.pointer (some ⟨sb, 0, none⟩)] w fun r w' => ∃ mb db fb rb, r = .returned (.pointer (some ⟨mb, 0, none⟩)) ∧ Mac w w' mb sb db (mst0 ah fb σ.ns.length rb σ.ranges) := by
  obtain ⟨i0, hi0, hz0, hz1, hz2⟩ := info_parts Tryz.infoBytes
  have HI := hid (And.intro hi0 (And.intro hz0 (And.intro hz1 hz2)))
  obtain ⟨i1, hi1, hy0, hy1, hy2⟩ := info_parts Tryz.infoBool
  have HJ := hid (And.intro hi1 (And.intro hy0 (And.intro hy1 hy2)))
  have HAH := hid hah
  obtain ⟨A, c, e, _, _⟩ := own_form hs.o5
  obtain ⟨n, hnn⟩ : ∃ n, n = σ.ns.length := ⟨_, rfl⟩
  obtain ⟨nr, hnr⟩ : ∃ nr, nr = σ.ranges := ⟨_, rfl⟩
  have c2 : w.cell? ⟨sb, 2, none⟩ = some σ.vn := by simpa using hs.c2
  have c3 : w.cell? ⟨sb, 3, none⟩ = some (.int .i64 σ.ranges) := by simpa using hs.c3
  rw [e] at c2
  rw [← hnn] at c2 hn ⊢
  rw [← hnr] at c3 hrg ⊢
  clear hi0 hz0 hz1 hz2 hi1 hy0 hy1 hy2 hah e hnn hnr hs
  go_enter Tryz.func20, Tryz.ntmps20
  go_upto_region 1 with fail
  go_cut [2] from 3 (fun v wx => ∃ mb db fb rb, v = .pointer (some ⟨mb, 0, none⟩) ∧ Mac w wx mb sb db (mst0 ah fb n rb nr))
  case first =>
    have hS : (fun w' : World => w'.cell? ⟨sb, 2, none⟩ = some (.slice A n c) ∧ w'.cell? ⟨sb, 3, none⟩ = some (.int .i64 nr)) w.drew := ⟨c2, c3⟩
    have k0 : Kp [] w w.drew := Kp.drew _ _
    clear c2 c3
    refine wp_region_T (fun w' => w'.cell? ⟨sb, 2, none⟩ = some (.slice A n c) ∧ w'.cell? ⟨sb, 3, none⟩ = some (.int .i64 nr)) 19 (by kernel_rfl) ?_
    obtain ⟨v0, hv0⟩ : ∃ v0, v0 = w.drew := ⟨_, rfl⟩
    rw [← hv0] at hS k0 ⊢
    clear hv0
    have S0 := hS
    clear hS
    refine wpAnyT_take (i := 0) (v := ?v0n1) rfl (by kernel_rfl) (by kernel_rfl) (by kernel_rfl) (by kernel_rfl) (fun _ _ _ h => h) (Or.inl ⟨by rfl, ?y0n1⟩) S0 ?_
    case y0n1 => (intro w hSw; (try dsimp only at hSw); go_simp; (try with_reducible rfl))
    simp only [List.getElem_toArray, List.getElem_cons_zero, Act.put, List.setIfInBounds_toArray, List.set_cons_zero, List.set_cons_succ]
    refine wpAnyT_take (i := 2) (v := ?v2n2) rfl (by kernel_rfl) (by kernel_rfl) (by kernel_rfl) (by kernel_rfl) (fun _ _ _ h => h) (Or.inl ⟨by rfl, ?y2n2⟩) S0 ?_
    case y2n2 => (intro w hSw; (try dsimp only at hSw); go_simp; (try with_reducible rfl))
    simp only [List.getElem_toArray, List.getElem_cons_succ, List.getElem_cons_zero, Act.put, List.setIfInBounds_toArray, List.set_cons_zero, List.set_cons_succ]
    refine wpAnyT_take (i := 5) (v := ?v5n3) rfl (by kernel_rfl) (by kernel_rfl) (by kernel_rfl) (by kernel_rfl) (fun _ _ _ h => h) (Or.inl ⟨by rfl, ?y5n3⟩) S0 ?_
    case y5n3 => (intro w hSw; (try dsimp only at hSw); go_simp; (try with_reducible rfl))
    simp only [List.getElem_toArray, List.getElem_cons_succ, List.getElem_cons_zero, Act.put, List.setIfInBounds_toArray, List.set_cons_zero, List.set_cons_succ]
    refine wpAnyT_take (i := 6) (v := ?v6n4) rfl (by kernel_rfl) (by kernel_rfl) (by kernel_rfl) (by kernel_rfl) (fun _ _ _ h => h) (Or.inl ⟨by rfl, ?y6n4⟩) S0 ?_
    case y6n4 => (intro w hSw; (try dsimp only at hSw); go_simp; (try with_reducible rfl))
    simp only [List.getElem_toArray, List.getElem_cons_succ, List.getElem_cons_zero, Act.put, List.setIfInBounds_toArray, List.set_cons_zero, List.set_cons_succ]
    refine wpAnyT_take (i := 7) (v := ?v7n5) rfl (by kernel_rfl) (by kernel_rfl) (by kernel_rfl) (by kernel_rfl) (fun _ _ _ h => h) (Or.inl ⟨by rfl, ?y7n5⟩) S0 ?_
    case y7n5 => (intro w hSw; (try dsimp only at hSw); go_simp; (try with_reducible rfl))
    simp only [List.getElem_toArray, List.getElem_cons_succ, List.getElem_cons_zero, Act.put, List.setIfInBounds_toArray, List.set_cons_zero, List.set_cons_succ]
    refine wpAnyT_take (i := 8) (v := ?v8n6) rfl (by kernel_rfl) (by kernel_rfl) (by kernel_rfl) (by kernel_rfl) (fun _ _ _ h => h) (Or.inl ⟨by rfl, ?y8n6⟩) S0 ?_
    case y8n6 => (intro w hSw; (try dsimp only at hSw); go_simp; (try with_reducible rfl))
    simp only [List.getElem_toArray, List.getElem_cons_succ, List.getElem_cons_zero, Act.put, List.setIfInBounds_toArray, List.set_cons_zero, List.set_cons_succ]
    refine wpAnyT_take (i := 9) (v := ?v9n7) rfl (by kernel_rfl) (by kernel_rfl) (by kernel_rfl) (by kernel_rfl) (fun _ _ _ h => h) (Or.inl ⟨by rfl, ?y9n7⟩) S0 ?_
    case y9n7 => (intro w hSw; (try dsimp only at hSw); go_simp; (try with_reducible rfl))
    simp only [List.getElem_toArray, List.getElem_cons_succ, List.getElem_cons_zero, Act.put, List.setIfInBounds_toArray, List.set_cons_zero, List.set_cons_succ]
    refine wpAnyT_take (i := 12) (v := ?v12n8) rfl (by kernel_rfl) (by kernel_rfl) (by kernel_rfl) (by kernel_rfl) (fun _ _ _ h => h) (Or.inl ⟨by rfl, ?y12n8⟩) S0 ?_
    case y12n8 => (intro w hSw; (try dsimp only at hSw); go_simp; (try with_reducible rfl))
    simp only [List.getElem_toArray, List.getElem_cons_succ, List.getElem_cons_zero, Act.put, List.setIfInBounds_toArray, List.set_cons_zero, List.set_cons_succ]
    refine wpAnyT_take (i := 13) (v := ?v13n9) rfl (by kernel_rfl) (by kernel_rfl) (by kernel_rfl) (by kernel_rfl) (fun _ _ _ h => h) (Or.inl ⟨by rfl, ?y13n9⟩) S0 ?_
    case y13n9 => (intro w hSw; (try dsimp only at hSw); go_simp; (try with_reducible rfl))
    simp only [List.getElem_toArray, List.getElem_cons_succ, List.getElem_cons_zero, Act.put, List.setIfInBounds_toArray, List.set_cons_zero, List.set_cons_succ]
    refine wpAnyT_take (i := 14) (v := ?v14n10) rfl (by kernel_rfl) (by kernel_rfl) (by kernel_rfl) (by kernel_rfl) (fun _ _ _ h => h) (Or.inl ⟨by rfl, ?y14n10⟩) S0 ?_
    case y14n10 => (intro w hSw; (try dsimp only at hSw); go_simp; (try with_reducible rfl))
    simp only [List.getElem_toArray, List.getElem_cons_succ, List.getElem_cons_zero, Act.put, List.setIfInBounds_toArray, List.set_cons_zero, List.set_cons_succ]
    refine wpAnyT_take (i := 15) (v := ?v15n11) rfl (by kernel_rfl) (by kernel_rfl) (by kernel_rfl) (by kernel_rfl) (fun _ _ _ h => h) (Or.inl ⟨by rfl, ?y15n11⟩) S0 ?_
    case y15n11 => (intro w hSw; (try dsimp only at hSw); go_simp; (try with_reducible rfl))
    simp only [List.getElem_toArray, List.getElem_cons_succ, List.getElem_cons_zero, Act.put, List.setIfInBounds_toArray, List.set_cons_zero, List.set_cons_succ]
    refine wpAnyT_three (i := 1) (j := 10) (k := 16) (by kernel_rfl) rfl rfl rfl (fun K hK => ?_) (fun K hK => ?_) (fun K hK => ?_)
    · go_simp
      refine (deeds_any v0).mono ?_
      rintro q v1 ⟨rfl, fd, kd⟩
      dsimp only
      obtain ⟨db, hd⟩ : ∃ db, db = v0.heap.size := ⟨_, rfl⟩
      rw [← hd] at fd ⊢
      have ld : w.heap.size ≤ db := by rw [hd]; exact k0.size
      have S1 : (fun w' : World => w'.cell? ⟨sb, 2, none⟩ = some (.slice A n c) ∧ w'.cell? ⟨sb, 3, none⟩ = some (.int .i64 nr)) v1 := ⟨(kd.cell (p := ⟨sb, 2, none⟩) (World.block_lt_of_cell? _ _ S0.1) (by simp)).trans S0.1, (kd.cell (p := ⟨sb, 3, none⟩) (World.block_lt_of_cell? _ _ S0.2) (by simp)).trans S0.2⟩
      have k1 := k0.trans kd
      clear hd
      refine hK.out _ _ (.inr S1) ?_
      clear hK K kd
      try simp only [List.getElem_toArray, List.getElem_cons_succ, List.getElem_cons_zero, Act.put, List.setIfInBounds_toArray, List.set_cons_zero, List.set_cons_succ]
      refine wpAnyT_three (i := 3) (j := 10) (k := 16) (by kernel_rfl) rfl rfl rfl (fun K hK => ?_) (fun K hK => ?_) (fun K hK => ?_)
      · go_simp
        refine (HAH.out v1 k1).mono ?_
        rintro q v2 ⟨rfl, kd⟩
        dsimp only
        replace fd := (kd.block db (lt_blk fd) (by simp)).trans fd
        have S2 : (fun w' : World => w'.cell? ⟨sb, 2, none⟩ = some (.slice A n c) ∧ w'.cell? ⟨sb, 3, none⟩ = some (.int .i64 nr)) v2 := ⟨(kd.cell (p := ⟨sb, 2, none⟩) (World.block_lt_of_cell? _ _ S1.1) (by simp)).trans S1.1, (kd.cell (p := ⟨sb, 3, none⟩) (World.block_lt_of_cell? _ _ S1.2) (by simp)).trans S1.2⟩
        have k2 := k1.trans kd
        refine hK.out _ _ (.inr S2) ?_
        clear hK K kd
        try simp only [List.getElem_toArray, List.getElem_cons_succ, List.getElem_cons_zero, Act.put, List.setIfInBounds_toArray, List.set_cons_zero, List.set_cons_succ]
        refine wpAnyT_take (i := 4) (v := ?v4n12) rfl (by kernel_rfl) (by kernel_rfl) (by kernel_rfl) (by kernel_rfl) (fun _ _ _ h => h) (Or.inl ⟨by rfl, ?y4n12⟩) S2 ?_
        case y4n12 => (intro w hSw; (try dsimp only at hSw); go_simp; (try with_reducible rfl))
        simp only [List.getElem_toArray, List.getElem_cons_succ, List.getElem_cons_zero, Act.put, List.setIfInBounds_toArray, List.set_cons_zero, List.set_cons_succ]
        refine wpAnyT_two (i := 10) (j := 16) (by kernel_rfl) rfl rfl (fun K hK => ?_) (fun K hK => ?_)
        · refine step_make (by rfl) 65 (.tmp 12) (.tmp 12) (by rfl) n (by rfl) (by rfl) 34 i0 (.slice none 0 0) Tryz.underlying65 HI.out.1 HI.out.2.1 HI.out.2.2.1 (by rw [HI.out.2.2.2]; omega) (by omega) ?_
          intro v3 ff kd
          obtain ⟨fb, hf⟩ : ∃ fb, fb = v2.heap.size := ⟨_, rfl⟩
          rw [← hf] at ff ⊢
          have lf : w.heap.size ≤ fb := by rw [hf]; exact k2.size
          have ndf : db ≠ fb := by have := lt_blk fd; omega
          replace fd := (kd.block db (lt_blk fd) (by simp)).trans fd
          have S3 : (fun w' : World => w'.cell? ⟨sb, 2, none⟩ = some (.slice A n c) ∧ w'.cell? ⟨sb, 3, none⟩ = some (.int .i64 nr)) v3 := ⟨(kd.cell (p := ⟨sb, 2, none⟩) (World.block_lt_of_cell? _ _ S2.1) (by simp)).trans S2.1, (kd.cell (p := ⟨sb, 3, none⟩) (World.block_lt_of_cell? _ _ S2.2) (by simp)).trans S2.2⟩
          have k3 := k2.trans kd
          clear hf
          refine hK.out _ _ (.inr S3) ?_
          clear hK K kd
          try simp only [List.getElem_toArray, List.getElem_cons_succ, List.getElem_cons_zero, Act.put, List.setIfInBounds_toArray, List.set_cons_zero, List.set_cons_succ]
          refine wpAnyT_take (i := 11) (v := ?v11n13) rfl (by kernel_rfl) (by kernel_rfl) (by kernel_rfl) (by kernel_rfl) (fun _ _ _ h => h) (Or.inl ⟨by rfl, ?y11n13⟩) S3 ?_
          case y11n13 => (intro w hSw; (try dsimp only at hSw); go_simp; (try with_reducible rfl))
          simp only [List.getElem_toArray, List.getElem_cons_succ, List.getElem_cons_zero, Act.put, List.setIfInBounds_toArray, List.set_cons_zero, List.set_cons_succ]
          refine wpAnyT_one (i := 16) (by kernel_rfl) rfl (fun K hK => ?_)
          refine step_make (by rfl) 68 (.tmp 18) (.tmp 18) (by rfl) nr (by rfl) (by rfl) 4 i1 (.bool false) Tryz.underlying68 HJ.out.1 HJ.out.2.1 HJ.out.2.2.1 (by rw [HJ.out.2.2.2]; omega) (by omega) ?_
          intro v4 fr kd
          obtain ⟨rb, hr⟩ : ∃ rb, rb = v3.heap.size := ⟨_, rfl⟩
          rw [← hr] at fr ⊢
          have lr : w.heap.size ≤ rb := by rw [hr]; exact k3.size
          have ndr : db ≠ rb := by have := lt_blk fd; omega
          have nfr : fb ≠ rb := by have := lt_blk ff; omega
          replace fd := (kd.block db (lt_blk fd) (by simp)).trans fd
          replace ff := (kd.block fb (lt_blk ff) (by simp)).trans ff
          have S4 : (fun w' : World => w'.cell? ⟨sb, 2, none⟩ = some (.slice A n c) ∧ w'.cell? ⟨sb, 3, none⟩ = some (.int .i64 nr)) v4 := ⟨(kd.cell (p := ⟨sb, 2, none⟩) (World.block_lt_of_cell? _ _ S3.1) (by simp)).trans S3.1, (kd.cell (p := ⟨sb, 3, none⟩) (World.block_lt_of_cell? _ _ S3.2) (by simp)).trans S3.2⟩
          have k4 := k3.trans kd
          clear hr
          refine hK.out _ _ (.inr S4) ?_
          clear hK K kd
          try simp only [List.getElem_toArray, List.getElem_cons_succ, List.getElem_cons_zero, Act.put, List.setIfInBounds_toArray, List.set_cons_zero, List.set_cons_succ]
          refine wpAnyT_one (i := 17) (by kernel_rfl) rfl (fun K hK => ?_)
          go_simp
          refine hK.out _ _ (.inr S4) ?_
          clear hK K
          refine wpAnyT_one (i := 18) (by kernel_rfl) rfl (fun K hK => ?_)
          go_simp
          refine hK.out _ _ (.inr ⟨((Kp.alloc [] v4 _).cell (p := ⟨sb, 2, none⟩) (World.block_lt_of_cell? _ _ S4.1) (by simp)).trans S4.1, ((Kp.alloc [] v4 _).cell (p := ⟨sb, 3, none⟩) (World.block_lt_of_cell? _ _ S4.2) (by simp)).trans S4.2⟩) ?_
          clear hK K
          refine wpAnyT_one (i := 19) (by kernel_rfl) rfl (fun K hK => ?_)
          go_simp
          refine hK.out _ _ (.inl rfl) ?_
          clear hK K
          refine wpAnyT_done (by kernel_rfl) ?_ _
          go_wp2_with fail
          go_meet
          case rel => exact ⟨_, db, fb, rb, rfl, mac_new (ah := ah) (sb := sb) k4 fd ff fr ld lf lr ndf ndr nfr (by omega) (by omega)⟩
        · refine step_make (by rfl) 68 (.tmp 18) (.tmp 18) (by rfl) nr (by rfl) (by rfl) 4 i1 (.bool false) Tryz.underlying68 HJ.out.1 HJ.out.2.1 HJ.out.2.2.1 (by rw [HJ.out.2.2.2]; omega) (by omega) ?_
          intro v3 fr kd
          obtain ⟨rb, hr⟩ : ∃ rb, rb = v2.heap.size := ⟨_, rfl⟩
          rw [← hr] at fr ⊢
          have lr : w.heap.size ≤ rb := by rw [hr]; exact k2.size
          have ndr : db ≠ rb := by have := lt_blk fd; omega
          replace fd := (kd.block db (lt_blk fd) (by simp)).trans fd
          have S3 : (fun w' : World => w'.cell? ⟨sb, 2, none⟩ = some (.slice A n c) ∧ w'.cell? ⟨sb, 3, none⟩ = some (.int .i64 nr)) v3 := ⟨(kd.cell (p := ⟨sb, 2, none⟩) (World.block_lt_of_cell? _ _ S2.1) (by simp)).trans S2.1, (kd.cell (p := ⟨sb, 3, none⟩) (World.block_lt_of_cell? _ _ S2.2) (by simp)).trans S2.2⟩
          have k3 := k2.trans kd
          clear hr
          refine hK.out _ _ (.inr S3) ?_
          clear hK K kd
          try simp only [List.getElem_toArray, List.getElem_cons_succ, List.getElem_cons_zero, Act.put, List.setIfInBounds_toArray, List.set_cons_zero, List.set_cons_succ]
          refine wpAnyT_one (i := 10) (by kernel_rfl) rfl (fun K hK => ?_)
          refine step_make (by rfl) 65 (.tmp 12) (.tmp 12) (by rfl) n (by rfl) (by rfl) 34 i0 (.slice none 0 0) Tryz.underlying65 HI.out.1 HI.out.2.1 HI.out.2.2.1 (by rw [HI.out.2.2.2]; omega) (by omega) ?_
          intro v4 ff kd
          obtain ⟨fb, hf⟩ : ∃ fb, fb = v3.heap.size := ⟨_, rfl⟩
          rw [← hf] at ff ⊢
          have lf : w.heap.size ≤ fb := by rw [hf]; exact k3.size
          have nfr : fb ≠ rb := by have := lt_blk fr; omega
          have ndf : db ≠ fb := by have := lt_blk fd; omega
          replace fr := (kd.block rb (lt_blk fr) (by simp)).trans fr
          replace fd := (kd.block db (lt_blk fd) (by simp)).trans fd
          have S4 : (fun w' : World => w'.cell? ⟨sb, 2, none⟩ = some (.slice A n c) ∧ w'.cell? ⟨sb, 3, none⟩ = some (.int .i64 nr)) v4 := ⟨(kd.cell (p := ⟨sb, 2, none⟩) (World.block_lt_of_cell? _ _ S3.1) (by simp)).trans S3.1, (kd.cell (p := ⟨sb, 3, none⟩) (World.block_lt_of_cell? _ _ S3.2) (by simp)).trans S3.2⟩
          have k4 := k3.trans kd
          clear hf
          refine hK.out _ _ (.inr S4) ?_
          clear hK K kd
          try simp only [List.getElem_toArray, List.getElem_cons_succ, List.getElem_cons_zero, Act.put, List.setIfInBounds_toArray, List.set_cons_zero, List.set_cons_succ]
          refine wpAnyT_take (i := 11) (v := ?v11n14) rfl (by kernel_rfl) (by kernel_rfl) (by kernel_rfl) (by kernel_rfl) (fun _ _ _ h => h) (Or.inl ⟨by rfl, ?y11n14⟩) S4 ?_
          case y11n14 => (intro w hSw; (try dsimp only at hSw); go_simp; (try with_reducible rfl))
          simp only [List.getElem_toArray, List.getElem_cons_succ, List.getElem_cons_zero, Act.put, List.setIfInBounds_toArray, List.set_cons_zero, List.set_cons_succ]
          refine wpAnyT_one (i := 17) (by kernel_rfl) rfl (fun K hK => ?_)
          go_simp
          refine hK.out _ _ (.inr S4) ?_
          clear hK K
          refine wpAnyT_one (i := 18) (by kernel_rfl) rfl (fun K hK => ?_)
          go_simp
          refine hK.out _ _ (.inr ⟨((Kp.alloc [] v4 _).cell (p := ⟨sb, 2, none⟩) (World.block_lt_of_cell? _ _ S4.1) (by simp)).trans S4.1, ((Kp.alloc [] v4 _).cell (p := ⟨sb, 3, none⟩) (World.block_lt_of_cell? _ _ S4.2) (by simp)).trans S4.2⟩) ?_
          clear hK K
          refine wpAnyT_one (i := 19) (by kernel_rfl) rfl (fun K hK => ?_)
          go_simp
          refine hK.out _ _ (.inl rfl) ?_
          clear hK K
          refine wpAnyT_done (by kernel_rfl) ?_ _
          go_wp2_with fail
          go_meet
          case rel => exact ⟨_, db, fb, rb, rfl, mac_new (ah := ah) (sb := sb) k4 fd ff fr ld lf lr ndf ndr nfr (by omega) (by omega)⟩
      · refine step_make (by rfl) 65 (.tmp 12) (.tmp 12) (by rfl) n (by rfl) (by rfl) 34 i0 (.slice none 0 0) Tryz.underlying65 HI.out.1 HI.out.2.1 HI.out.2.2.1 (by rw [HI.out.2.2.2]; omega) (by omega) ?_
        intro v2 ff kd
        obtain ⟨fb, hf⟩ : ∃ fb, fb = v1.heap.size := ⟨_, rfl⟩
        rw [← hf] at ff ⊢
        have lf : w.heap.size ≤ fb := by rw [hf]; exact k1.size
        have ndf : db ≠ fb := by have := lt_blk fd; omega
        replace fd := (kd.block db (lt_blk fd) (by simp)).trans fd
        have S2 : (fun w' : World => w'.cell? ⟨sb, 2, none⟩ = some (.slice A n c) ∧ w'.cell? ⟨sb, 3, none⟩ = some (.int .i64 nr)) v2 := ⟨(kd.cell (p := ⟨sb, 2, none⟩) (World.block_lt_of_cell? _ _ S1.1) (by simp)).trans S1.1, (kd.cell (p := ⟨sb, 3, none⟩) (World.block_lt_of_cell? _ _ S1.2) (by simp)).trans S1.2⟩
        have k2 := k1.trans kd
        clear hf
        refine hK.out _ _ (.inr S2) ?_
        clear hK K kd
        try simp only [List.getElem_toArray, List.getElem_cons_succ, List.getElem_cons_zero, Act.put, List.setIfInBounds_toArray, List.set_cons_zero, List.set_cons_succ]
        refine wpAnyT_take (i := 11) (v := ?v11n15) rfl (by kernel_rfl) (by kernel_rfl) (by kernel_rfl) (by kernel_rfl) (fun _ _ _ h => h) (Or.inl ⟨by rfl, ?y11n15⟩) S2 ?_
        case y11n15 => (intro w hSw; (try dsimp only at hSw); go_simp; (try with_reducible rfl))
        simp only [List.getElem_toArray, List.getElem_cons_succ, List.getElem_cons_zero, Act.put, List.setIfInBounds_toArray, List.set_cons_zero, List.set_cons_succ]
        refine wpAnyT_two (i := 3) (j := 16) (by kernel_rfl) rfl rfl (fun K hK => ?_) (fun K hK => ?_)
        · go_simp
          refine (HAH.out v2 k2).mono ?_
          rintro q v3 ⟨rfl, kd⟩
          dsimp only
          replace fd := (kd.block db (lt_blk fd) (by simp)).trans fd
          replace ff := (kd.block fb (lt_blk ff) (by simp)).trans ff
          have S3 : (fun w' : World => w'.cell? ⟨sb, 2, none⟩ = some (.slice A n c) ∧ w'.cell? ⟨sb, 3, none⟩ = some (.int .i64 nr)) v3 := ⟨(kd.cell (p := ⟨sb, 2, none⟩) (World.block_lt_of_cell? _ _ S2.1) (by simp)).trans S2.1, (kd.cell (p := ⟨sb, 3, none⟩) (World.block_lt_of_cell? _ _ S2.2) (by simp)).trans S2.2⟩
          have k3 := k2.trans kd
          refine hK.out _ _ (.inr S3) ?_
          clear hK K kd
          try simp only [List.getElem_toArray, List.getElem_cons_succ, List.getElem_cons_zero, Act.put, List.setIfInBounds_toArray, List.set_cons_zero, List.set_cons_succ]
          refine wpAnyT_take (i := 4) (v := ?v4n16) rfl (by kernel_rfl) (by kernel_rfl) (by kernel_rfl) (by kernel_rfl) (fun _ _ _ h => h) (Or.inl ⟨by rfl, ?y4n16⟩) S3 ?_
          case y4n16 => (intro w hSw; (try dsimp only at hSw); go_simp; (try with_reducible rfl))
          simp only [List.getElem_toArray, List.getElem_cons_succ, List.getElem_cons_zero, Act.put, List.setIfInBounds_toArray, List.set_cons_zero, List.set_cons_succ]
          refine wpAnyT_one (i := 16) (by kernel_rfl) rfl (fun K hK => ?_)
          refine step_make (by rfl) 68 (.tmp 18) (.tmp 18) (by rfl) nr (by rfl) (by rfl) 4 i1 (.bool false) Tryz.underlying68 HJ.out.1 HJ.out.2.1 HJ.out.2.2.1 (by rw [HJ.out.2.2.2]; omega) (by omega) ?_
          intro v4 fr kd
          obtain ⟨rb, hr⟩ : ∃ rb, rb = v3.heap.size := ⟨_, rfl⟩
          rw [← hr] at fr ⊢
          have lr : w.heap.size ≤ rb := by rw [hr]; exact k3.size
          have ndr : db ≠ rb := by have := lt_blk fd; omega
          have nfr : fb ≠ rb := by have := lt_blk ff; omega
          replace fd := (kd.block db (lt_blk fd) (by simp)).trans fd
          replace ff := (kd.block fb (lt_blk ff) (by simp)).trans ff
          have S4 : (fun w' : World => w'.cell? ⟨sb, 2, none⟩ = some (.slice A n c) ∧ w'.cell? ⟨sb, 3, none⟩ = some (.int .i64 nr)) v4 := ⟨(kd.cell (p := ⟨sb, 2, none⟩) (World.block_lt_of_cell? _ _ S3.1) (by simp)).trans S3.1, (kd.cell (p := ⟨sb, 3, none⟩) (World.block_lt_of_cell? _ _ S3.2) (by simp)).trans S3.2⟩
          have k4 := k3.trans kd
          clear hr
          refine hK.out _ _ (.inr S4) ?_
          clear hK K kd
          try simp only [List.getElem_toArray, List.getElem_cons_succ, List.getElem_cons_zero, Act.put, List.setIfInBounds_toArray, List.set_cons_zero, List.set_cons_succ]
          refine wpAnyT_one (i := 17) (by kernel_rfl) rfl (fun K hK => ?_)
          go_simp
          refine hK.out _ _ (.inr S4) ?_
          clear hK K
          refine wpAnyT_one (i := 18) (by kernel_rfl) rfl (fun K hK => ?_)
          go_simp
          refine hK.out _ _ (.inr ⟨((Kp.alloc [] v4 _).cell (p := ⟨sb, 2, none⟩) (World.block_lt_of_cell? _ _ S4.1) (by simp)).trans S4.1, ((Kp.alloc [] v4 _).cell (p := ⟨sb, 3, none⟩) (World.block_lt_of_cell? _ _ S4.2) (by simp)).trans S4.2⟩) ?_
          clear hK K
          refine wpAnyT_one (i := 19) (by kernel_rfl) rfl (fun K hK => ?_)
          go_simp
          refine hK.out _ _ (.inl rfl) ?_
          clear hK K
          refine wpAnyT_done (by kernel_rfl) ?_ _
          go_wp2_with fail
          go_meet
          case rel => exact ⟨_, db, fb, rb, rfl, mac_new (ah := ah) (sb := sb) k4 fd ff fr ld lf lr ndf ndr nfr (by omega) (by omega)⟩
        · refine step_make (by rfl) 68 (.tmp 18) (.tmp 18) (by rfl) nr (by rfl) (by rfl) 4 i1 (.bool false) Tryz.underlying68 HJ.out.1 HJ.out.2.1 HJ.out.2.2.1 (by rw [HJ.out.2.2.2]; omega) (by omega) ?_
          intro v3 fr kd
          obtain ⟨rb, hr⟩ : ∃ rb, rb = v2.heap.size := ⟨_, rfl⟩
          rw [← hr] at fr ⊢
          have lr : w.heap.size ≤ rb := by rw [hr]; exact k2.size
          have ndr : db ≠ rb := by have := lt_blk fd; omega
          have nfr : fb ≠ rb := by have := lt_blk ff; omega
          replace fd := (kd.block db (lt_blk fd) (by simp)).trans fd
          replace ff := (kd.block fb (lt_blk ff) (by simp)).trans ff
          have S3 : (fun w' : World => w'.cell? ⟨sb, 2, none⟩ = some (.slice A n c) ∧ w'.cell? ⟨sb, 3, none⟩ = some (.int .i64 nr)) v3 := ⟨(kd.cell (p := ⟨sb, 2, none⟩) (World.block_lt_of_cell? _ _ S2.1) (by simp)).trans S2.1, (kd.cell (p := ⟨sb, 3, none⟩) (World.block_lt_of_cell? _ _ S2.2) (by simp)).trans S2.2⟩
          have k3 := k2.trans kd
          clear hr
          refine hK.out _ _ (.inr S3) ?_
          clear hK K kd
          try simp only [List.getElem_toArray, List.getElem_cons_succ, List.getElem_cons_zero, Act.put, List.setIfInBounds_toArray, List.set_cons_zero, List.set_cons_succ]
          refine wpAnyT_one (i := 3) (by kernel_rfl) rfl (fun K hK => ?_)
          go_simp
          refine (HAH.out v3 k3).mono ?_
          rintro q v4 ⟨rfl, kd⟩
          dsimp only
          replace fr := (kd.block rb (lt_blk fr) (by simp)).trans fr
          replace fd := (kd.block db (lt_blk fd) (by simp)).trans fd
          replace ff := (kd.block fb (lt_blk ff) (by simp)).trans ff
          have S4 : (fun w' : World => w'.cell? ⟨sb, 2, none⟩ = some (.slice A n c) ∧ w'.cell? ⟨sb, 3, none⟩ = some (.int .i64 nr)) v4 := ⟨(kd.cell (p := ⟨sb, 2, none⟩) (World.block_lt_of_cell? _ _ S3.1) (by simp)).trans S3.1, (kd.cell (p := ⟨sb, 3, none⟩) (World.block_lt_of_cell? _ _ S3.2) (by simp)).trans S3.2⟩
          have k4 := k3.trans kd
          refine hK.out _ _ (.inr S4) ?_
          clear hK K kd
          try simp only [List.getElem_toArray, List.getElem_cons_succ, List.getElem_cons_zero, Act.put, List.setIfInBounds_toArray, List.set_cons_zero, List.set_cons_succ]
          refine wpAnyT_take (i := 4) (v := ?v4n17) rfl (by kernel_rfl) (by kernel_rfl) (by kernel_rfl) (by kernel_rfl) (fun _ _ _ h => h) (Or.inl ⟨by rfl, ?y4n17⟩) S4 ?_
          case y4n17 => (intro w hSw; (try dsimp only at hSw); go_simp; (try with_reducible rfl))
          simp only [List.getElem_toArray, List.getElem_cons_succ, List.getElem_cons_zero, Act.put, List.setIfInBounds_toArray, List.set_cons_zero, List.set_cons_succ]
          refine wpAnyT_one (i := 17) (by kernel_rfl) rfl (fun K hK => ?_)
          go_simp
          refine hK.out _ _ (.inr S4) ?_
          clear hK K
          refine wpAnyT_one (i := 18) (by kernel_rfl) rfl (fun K hK => ?_)
          go_simp
          refine hK.out _ _ (.inr ⟨((Kp.alloc [] v4 _).cell (p := ⟨sb, 2, none⟩) (World.block_lt_of_cell? _ _ S4.1) (by simp)).trans S4.1, ((Kp.alloc [] v4 _).cell (p := ⟨sb, 3, none⟩) (World.block_lt_of_cell? _ _ S4.2) (by simp)).trans S4.2⟩) ?_
          clear hK K
          refine wpAnyT_one (i := 19) (by kernel_rfl) rfl (fun K hK => ?_)
          go_simp
          refine hK.out _ _ (.inl rfl) ?_
          clear hK K
          refine wpAnyT_done (by kernel_rfl) ?_ _
          go_wp2_with fail
          go_meet
          case rel => exact ⟨_, db, fb, rb, rfl, mac_new (ah := ah) (sb := sb) k4 fd ff fr ld lf lr ndf ndr nfr (by omega) (by omega)⟩
      · refine step_make (by rfl) 68 (.tmp 18) (.tmp 18) (by rfl) nr (by rfl) (by rfl) 4 i1 (.bool false) Tryz.underlying68 HJ.out.1 HJ.out.2.1 HJ.out.2.2.1 (by rw [HJ.out.2.2.2]; omega) (by omega) ?_
        intro v2 fr kd
        obtain ⟨rb, hr⟩ : ∃ rb, rb = v1.heap.size := ⟨_, rfl⟩
        rw [← hr] at fr ⊢
        have lr : w.heap.size ≤ rb := by rw [hr]; exact k1.size
        have ndr : db ≠ rb := by have := lt_blk fd; omega
        replace fd := (kd.block db (lt_blk fd) (by simp)).trans fd
        have S2 : (fun w' : World => w'.cell? ⟨sb, 2, none⟩ = some (.slice A n c) ∧ w'.cell? ⟨sb, 3, none⟩ = some (.int .i64 nr)) v2 := ⟨(kd.cell (p := ⟨sb, 2, none⟩) (World.block_lt_of_cell? _ _ S1.1) (by simp)).trans S1.1, (kd.cell (p := ⟨sb, 3, none⟩) (World.block_lt_of_cell? _ _ S1.2) (by simp)).trans S1.2⟩
        have k2 := k1.trans kd
        clear hr
        refine hK.out _ _ (.inr S2) ?_
        clear hK K kd
        try simp only [List.getElem_toArray, List.getElem_cons_succ, List.getElem_cons_zero, Act.put, List.setIfInBounds_toArray, List.set_cons_zero, List.set_cons_succ]
        refine wpAnyT_two (i := 3) (j := 10) (by kernel_rfl) rfl rfl (fun K hK => ?_) (fun K hK => ?_)
        · go_simp
          refine (HAH.out v2 k2).mono ?_
          rintro q v3 ⟨rfl, kd⟩
          dsimp only
          replace fr := (kd.block rb (lt_blk fr) (by simp)).trans fr
          replace fd := (kd.block db (lt_blk fd) (by simp)).trans fd
          have S3 : (fun w' : World => w'.cell? ⟨sb, 2, none⟩ = some (.slice A n c) ∧ w'.cell? ⟨sb, 3, none⟩ = some (.int .i64 nr)) v3 := ⟨(kd.cell (p := ⟨sb, 2, none⟩) (World.block_lt_of_cell? _ _ S2.1) (by simp)).trans S2.1, (kd.cell (p := ⟨sb, 3, none⟩) (World.block_lt_of_cell? _ _ S2.2) (by simp)).trans S2.2⟩
          have k3 := k2.trans kd
          refine hK.out _ _ (.inr S3) ?_
          clear hK K kd
          try simp only [List.getElem_toArray, List.getElem_cons_succ, List.getElem_cons_zero, Act.put, List.setIfInBounds_toArray, List.set_cons_zero, List.set_cons_succ]
          refine wpAnyT_take (i := 4) (v := ?v4n18) rfl (by kernel_rfl) (by kernel_rfl) (by kernel_rfl) (by kernel_rfl) (fun _ _ _ h => h) (Or.inl ⟨by rfl, ?y4n18⟩) S3 ?_
          case y4n18 => (intro w hSw; (try dsimp only at hSw); go_simp; (try with_reducible rfl))
          simp only [List.getElem_toArray, List.getElem_cons_succ, List.getElem_cons_zero, Act.put, List.setIfInBounds_toArray, List.set_cons_zero, List.set_cons_succ]
          refine wpAnyT_one (i := 10) (by kernel_rfl) rfl (fun K hK => ?_)
          refine step_make (by rfl) 65 (.tmp 12) (.tmp 12) (by rfl) n (by rfl) (by rfl) 34 i0 (.slice none 0 0) Tryz.underlying65 HI.out.1 HI.out.2.1 HI.out.2.2.1 (by rw [HI.out.2.2.2]; omega) (by omega) ?_
          intro v4 ff kd
          obtain ⟨fb, hf⟩ : ∃ fb, fb = v3.heap.size := ⟨_, rfl⟩
          rw [← hf] at ff ⊢
          have lf : w.heap.size ≤ fb := by rw [hf]; exact k3.size
          have nfr : fb ≠ rb := by have := lt_blk fr; omega
          have ndf : db ≠ fb := by have := lt_blk fd; omega
          replace fr := (kd.block rb (lt_blk fr) (by simp)).trans fr
          replace fd := (kd.block db (lt_blk fd) (by simp)).trans fd
          have S4 : (fun w' : World => w'.cell? ⟨sb, 2, none⟩ = some (.slice A n c) ∧ w'.cell? ⟨sb, 3, none⟩ = some (.int .i64 nr)) v4 := ⟨(kd.cell (p := ⟨sb, 2, none⟩) (World.block_lt_of_cell? _ _ S3.1) (by simp)).trans S3.1, (kd.cell (p := ⟨sb, 3, none⟩) (World.block_lt_of_cell? _ _ S3.2) (by simp)).trans S3.2⟩
          have k4 := k3.trans kd
          clear hf
          refine hK.out _ _ (.inr S4) ?_
          clear hK K kd
          try simp only [List.getElem_toArray, List.getElem_cons_succ, List.getElem_cons_zero, Act.put, List.setIfInBounds_toArray, List.set_cons_zero, List.set_cons_succ]
          refine wpAnyT_take (i := 11) (v := ?v11n19) rfl (by kernel_rfl) (by kernel_rfl) (by kernel_rfl) (by kernel_rfl) (fun _ _ _ h => h) (Or.inl ⟨by rfl, ?y11n19⟩) S4 ?_
          case y11n19 => (intro w hSw; (try dsimp only at hSw); go_simp; (try with_reducible rfl))
          simp only [List.getElem_toArray, List.getElem_cons_succ, List.getElem_cons_zero, Act.put, List.setIfInBounds_toArray, List.set_cons_zero, List.set_cons_succ]
          refine wpAnyT_one (i := 17) (by kernel_rfl) rfl (fun K hK => ?_)
          go_simp
          refine hK.out _ _ (.inr S4) ?_
          clear hK K
          refine wpAnyT_one (i := 18) (by kernel_rfl) rfl (fun K hK => ?_)
          go_simp
          refine hK.out _ _ (.inr ⟨((Kp.alloc [] v4 _).cell (p := ⟨sb, 2, none⟩) (World.block_lt_of_cell? _ _ S4.1) (by simp)).trans S4.1, ((Kp.alloc [] v4 _).cell (p := ⟨sb, 3, none⟩) (World.block_lt_of_cell? _ _ S4.2) (by simp)).trans S4.2⟩) ?_
          clear hK K
          refine wpAnyT_one (i := 19) (by kernel_rfl) rfl (fun K hK => ?_)
          go_simp
          refine hK.out _ _ (.inl rfl) ?_
          clear hK K
          refine wpAnyT_done (by kernel_rfl) ?_ _
          go_wp2_with fail
          go_meet
          case rel => exact ⟨_, db, fb, rb, rfl, mac_new (ah := ah) (sb := sb) k4 fd ff fr ld lf lr ndf ndr nfr (by omega) (by omega)⟩
        · refine step_make (by rfl) 65 (.tmp 12) (.tmp 12) (by rfl) n (by rfl) (by rfl) 34 i0 (.slice none 0 0) Tryz.underlying65 HI.out.1 HI.out.2.1 HI.out.2.2.1 (by rw [HI.out.2.2.2]; omega) (by omega) ?_
          intro v3 ff kd
          obtain ⟨fb, hf⟩ : ∃ fb, fb = v2.heap.size := ⟨_, rfl⟩
          rw [← hf] at ff ⊢
          have lf : w.heap.size ≤ fb := by rw [hf]; exact k2.size
          have nfr : fb ≠ rb := by have := lt_blk fr; omega
          have ndf : db ≠ fb := by have := lt_blk fd; omega
          replace fr := (kd.block rb (lt_blk fr) (by simp)).trans fr
          replace fd := (kd.block db (lt_blk fd) (by simp)).trans fd
          have S3 : (fun w' : World => w'.cell? ⟨sb, 2, none⟩ = some (.slice A n c) ∧ w'.cell? ⟨sb, 3, none⟩ = some (.int .i64 nr)) v3 := ⟨(kd.cell (p := ⟨sb, 2, none⟩) (World.block_lt_of_cell? _ _ S2.1) (by simp)).trans S2.1, (kd.cell (p := ⟨sb, 3, none⟩) (World.block_lt_of_cell? _ _ S2.2) (by simp)).trans S2.2⟩
          have k3 := k2.trans kd
          clear hf
          refine hK.out _ _ (.inr S3) ?_
          clear hK K kd
          try simp only [List.getElem_toArray, List.getElem_cons_succ, List.getElem_cons_zero, Act.put, List.setIfInBounds_toArray, List.set_cons_zero, List.set_cons_succ]
          refine wpAnyT_take (i := 11) (v := ?v11n20) rfl (by kernel_rfl) (by kernel_rfl) (by kernel_rfl) (by kernel_rfl) (fun _ _ _ h => h) (Or.inl ⟨by rfl, ?y11n20⟩) S3 ?_
          case y11n20 => (intro w hSw; (try dsimp only at hSw); go_simp; (try with_reducible rfl))
          simp only [List.getElem_toArray, List.getElem_cons_succ, List.getElem_cons_zero, Act.put, List.setIfInBounds_toArray, List.set_cons_zero, List.set_cons_succ]
          refine wpAnyT_one (i := 3) (by kernel_rfl) rfl (fun K hK => ?_)
          go_simp
          refine (HAH.out v3 k3).mono ?_
          rintro q v4 ⟨rfl, kd⟩
          dsimp only
          replace fr := (kd.block rb (lt_blk fr) (by simp)).trans fr
          replace fd := (kd.block db (lt_blk fd) (by simp)).trans fd
          replace ff := (kd.block fb (lt_blk ff) (by simp)).trans ff
          have S4 : (fun w' : World => w'.cell? ⟨sb, 2, none⟩ = some (.slice A n c) ∧ w'.cell? ⟨sb, 3, none⟩ = some (.int .i64 nr)) v4 := ⟨(kd.cell (p := ⟨sb, 2, none⟩) (World.block_lt_of_cell? _ _ S3.1) (by simp)).trans S3.1, (kd.cell (p := ⟨sb, 3, none⟩) (World.block_lt_of_cell? _ _ S3.2) (by simp)).trans S3.2⟩
          have k4 := k3.trans kd
          refine hK.out _ _ (.inr S4) ?_
          clear hK K kd
          try simp only [List.getElem_toArray, List.getElem_cons_succ, List.getElem_cons_zero, Act.put, List.setIfInBounds_toArray, List.set_cons_zero, List.set_cons_succ]
          refine wpAnyT_take (i := 4) (v := ?v4n21) rfl (by kernel_rfl) (by kernel_rfl) (by kernel_rfl) (by kernel_rfl) (fun _ _ _ h => h) (Or.inl ⟨by rfl, ?y4n21⟩) S4 ?_
          case y4n21 => (intro w hSw; (try dsimp only at hSw); go_simp; (try with_reducible rfl))
          simp only [List.getElem_toArray, List.getElem_cons_succ, List.getElem_cons_zero, Act.put, List.setIfInBounds_toArray, List.set_cons_zero, List.set_cons_succ]
          refine wpAnyT_one (i := 17) (by kernel_rfl) rfl (fun K hK => ?_)
          go_simp
          refine hK.out _ _ (.inr S4) ?_
          clear hK K
          refine wpAnyT_one (i := 18) (by kernel_rfl) rfl (fun K hK => ?_)
          go_simp
          refine hK.out _ _ (.inr ⟨((Kp.alloc [] v4 _).cell (p := ⟨sb, 2, none⟩) (World.block_lt_of_cell? _ _ S4.1) (by simp)).trans S4.1, ((Kp.alloc [] v4 _).cell (p := ⟨sb, 3, none⟩) (World.block_lt_of_cell? _ _ S4.2) (by simp)).trans S4.2⟩) ?_
          clear hK K
          refine wpAnyT_one (i := 19) (by kernel_rfl) rfl (fun K hK => ?_)
          go_simp
          refine hK.out _ _ (.inl rfl) ?_
          clear hK K
          refine wpAnyT_done (by kernel_rfl) ?_ _
          go_wp2_with fail
          go_meet
          case rel => exact ⟨_, db, fb, rb, rfl, mac_new (ah := ah) (sb := sb) k4 fd ff fr ld lf lr ndf ndr nfr (by omega) (by omega)⟩
    · refine step_make (by rfl) 65 (.tmp 12) (.tmp 12) (by rfl) n (by rfl) (by rfl) 34 i0 (.slice none 0 0) Tryz.underlying65 HI.out.1 HI.out.2.1 HI.out.2.2.1 (by rw [HI.out.2.2.2]; omega) (by omega) ?_
      intro v1 ff kd
      obtain ⟨fb, hf⟩ : ∃ fb, fb = v0.heap.size := ⟨_, rfl⟩
      rw [← hf] at ff ⊢
      have lf : w.heap.size ≤ fb := by rw [hf]; exact k0.size
      have S1 : (fun w' : World => w'.cell? ⟨sb, 2, none⟩ = some (.slice A n c) ∧ w'.cell? ⟨sb, 3, none⟩ = some (.int .i64 nr)) v1 := ⟨(kd.cell (p := ⟨sb, 2, none⟩) (World.block_lt_of_cell? _ _ S0.1) (by simp)).trans S0.1, (kd.cell (p := ⟨sb, 3, none⟩) (World.block_lt_of_cell? _ _ S0.2) (by simp)).trans S0.2⟩
      have k1 := k0.trans kd
      clear hf
      refine hK.out _ _ (.inr S1) ?_
      clear hK K kd
      try simp only [List.getElem_toArray, List.getElem_cons_succ, List.getElem_cons_zero, Act.put, List.setIfInBounds_toArray, List.set_cons_zero, List.set_cons_succ]
      refine wpAnyT_take (i := 11) (v := ?v11n22) rfl (by kernel_rfl) (by kernel_rfl) (by kernel_rfl) (by kernel_rfl) (fun _ _ _ h => h) (Or.inl ⟨by rfl, ?y11n22⟩) S1 ?_
      case y11n22 => (intro w hSw; (try dsimp only at hSw); go_simp; (try with_reducible rfl))
      simp only [List.getElem_toArray, List.getElem_cons_succ, List.getElem_cons_zero, Act.put, List.setIfInBounds_toArray, List.set_cons_zero, List.set_cons_succ]
      refine wpAnyT_two (i := 1) (j := 16) (by kernel_rfl) rfl rfl (fun K hK => ?_) (fun K hK => ?_)
      · go_simp
        refine (deeds_any v1).mono ?_
        rintro q v2 ⟨rfl, fd, kd⟩
        dsimp only
        obtain ⟨db, hd⟩ : ∃ db, db = v1.heap.size := ⟨_, rfl⟩
        rw [← hd] at fd ⊢
        have ld : w.heap.size ≤ db := by rw [hd]; exact k1.size
        have ndf : db ≠ fb := by have := lt_blk ff; omega
        replace ff := (kd.block fb (lt_blk ff) (by simp)).trans ff
        have S2 : (fun w' : World => w'.cell? ⟨sb, 2, none⟩ = some (.slice A n c) ∧ w'.cell? ⟨sb, 3, none⟩ = some (.int .i64 nr)) v2 := ⟨(kd.cell (p := ⟨sb, 2, none⟩) (World.block_lt_of_cell? _ _ S1.1) (by simp)).trans S1.1, (kd.cell (p := ⟨sb, 3, none⟩) (World.block_lt_of_cell? _ _ S1.2) (by simp)).trans S1.2⟩
        have k2 := k1.trans kd
        clear hd
        refine hK.out _ _ (.inr S2) ?_
        clear hK K kd
        try simp only [List.getElem_toArray, List.getElem_cons_succ, List.getElem_cons_zero, Act.put, List.setIfInBounds_toArray, List.set_cons_zero, List.set_cons_succ]
        refine wpAnyT_two (i := 3) (j := 16) (by kernel_rfl) rfl rfl (fun K hK => ?_) (fun K hK => ?_)
        · go_simp
          refine (HAH.out v2 k2).mono ?_
          rintro q v3 ⟨rfl, kd⟩
          dsimp only
          replace fd := (kd.block db (lt_blk fd) (by simp)).trans fd
          replace ff := (kd.block fb (lt_blk ff) (by simp)).trans ff
          have S3 : (fun w' : World => w'.cell? ⟨sb, 2, none⟩ = some (.slice A n c) ∧ w'.cell? ⟨sb, 3, none⟩ = some (.int .i64 nr)) v3 := ⟨(kd.cell (p := ⟨sb, 2, none⟩) (World.block_lt_of_cell? _ _ S2.1) (by simp)).trans S2.1, (kd.cell (p := ⟨sb, 3, none⟩) (World.block_lt_of_cell? _ _ S2.2) (by simp)).trans S2.2⟩
          have k3 := k2.trans kd
          refine hK.out _ _ (.inr S3) ?_
          clear hK K kd
          try simp only [List.getElem_toArray, List.getElem_cons_succ, List.getElem_cons_zero, Act.put, List.setIfInBounds_toArray, List.set_cons_zero, List.set_cons_succ]
          refine wpAnyT_take (i := 4) (v := ?v4n23) rfl (by kernel_rfl) (by kernel_rfl) (by kernel_rfl) (by kernel_rfl) (fun _ _ _ h => h) (Or.inl ⟨by rfl, ?y4n23⟩) S3 ?_
          case y4n23 => (intro w hSw; (try dsimp only at hSw); go_simp; (try with_reducible rfl))
          simp only [List.getElem_toArray, List.getElem_cons_succ, List.getElem_cons_zero, Act.put, List.setIfInBounds_toArray, List.set_cons_zero, List.set_cons_succ]
          refine wpAnyT_one (i := 16) (by kernel_rfl) rfl (fun K hK => ?_)
          refine step_make (by rfl) 68 (.tmp 18) (.tmp 18) (by rfl) nr (by rfl) (by rfl) 4 i1 (.bool false) Tryz.underlying68 HJ.out.1 HJ.out.2.1 HJ.out.2.2.1 (by rw [HJ.out.2.2.2]; omega) (by omega) ?_
          intro v4 fr kd
          obtain ⟨rb, hr⟩ : ∃ rb, rb = v3.heap.size := ⟨_, rfl⟩
          rw [← hr] at fr ⊢
          have lr : w.heap.size ≤ rb := by rw [hr]; exact k3.size
          have ndr : db ≠ rb := by have := lt_blk fd; omega
          have nfr : fb ≠ rb := by have := lt_blk ff; omega
          replace fd := (kd.block db (lt_blk fd) (by simp)).trans fd
          replace ff := (kd.block fb (lt_blk ff) (by simp)).trans ff
          have S4 : (fun w' : World => w'.cell? ⟨sb, 2, none⟩ = some (.slice A n c) ∧ w'.cell? ⟨sb, 3, none⟩ = some (.int .i64 nr)) v4 := ⟨(kd.cell (p := ⟨sb, 2, none⟩) (World.block_lt_of_cell? _ _ S3.1) (by simp)).trans S3.1, (kd.cell (p := ⟨sb, 3, none⟩) (World.block_lt_of_cell? _ _ S3.2) (by simp)).trans S3.2⟩
          have k4 := k3.trans kd
          clear hr
          refine hK.out _ _ (.inr S4) ?_
          clear hK K kd
          try simp only [List.getElem_toArray, List.getElem_cons_succ, List.getElem_cons_zero, Act.put, List.setIfInBounds_toArray, List.set_cons_zero, List.set_cons_succ]
          refine wpAnyT_one (i := 17) (by kernel_rfl) rfl (fun K hK => ?_)
          go_simp
          refine hK.out _ _ (.inr S4) ?_
          clear hK K
          refine wpAnyT_one (i := 18) (by kernel_rfl) rfl (fun K hK => ?_)
          go_simp
          refine hK.out _ _ (.inr ⟨((Kp.alloc [] v4 _).cell (p := ⟨sb, 2, none⟩) (World.block_lt_of_cell? _ _ S4.1) (by simp)).trans S4.1, ((Kp.alloc [] v4 _).cell (p := ⟨sb, 3, none⟩) (World.block_lt_of_cell? _ _ S4.2) (by simp)).trans S4.2⟩) ?_
          clear hK K
          refine wpAnyT_one (i := 19) (by kernel_rfl) rfl (fun K hK => ?_)
          go_simp
          refine hK.out _ _ (.inl rfl) ?_
          clear hK K
          refine wpAnyT_done (by kernel_rfl) ?_ _
          go_wp2_with fail
          go_meet
          case rel => exact ⟨_, db, fb, rb, rfl, mac_new (ah := ah) (sb := sb) k4 fd ff fr ld lf lr ndf ndr nfr (by omega) (by omega)⟩
        · refine step_make (by rfl) 68 (.tmp 18) (.tmp 18) (by rfl) nr (by rfl) (by rfl) 4 i1 (.bool false) Tryz.underlying68 HJ.out.1 HJ.out.2.1 HJ.out.2.2.1 (by rw [HJ.out.2.2.2]; omega) (by omega) ?_
          intro v3 fr kd
          obtain ⟨rb, hr⟩ : ∃ rb, rb = v2.heap.size := ⟨_, rfl⟩
          rw [← hr] at fr ⊢
          have lr : w.heap.size ≤ rb := by rw [hr]; exact k2.size
          have ndr : db ≠ rb := by have := lt_blk fd; omega
          have nfr : fb ≠ rb := by have := lt_blk ff; omega
          replace fd := (kd.block db (lt_blk fd) (by simp)).trans fd
          replace ff := (kd.block fb (lt_blk ff) (by simp)).trans ff
          have S3 : (fun w' : World => w'.cell? ⟨sb, 2, none⟩ = some (.slice A n c) ∧ w'.cell? ⟨sb, 3, none⟩ = some (.int .i64 nr)) v3 := ⟨(kd.cell (p := ⟨sb, 2, none⟩) (World.block_lt_of_cell? _ _ S2.1) (by simp)).trans S2.1, (kd.cell (p := ⟨sb, 3, none⟩) (World.block_lt_of_cell? _ _ S2.2) (by simp)).trans S2.2⟩
          have k3 := k2.trans kd
          clear hr
          refine hK.out _ _ (.inr S3) ?_
          clear hK K kd
          try simp only [List.getElem_toArray, List.getElem_cons_succ, List.getElem_cons_zero, Act.put, List.setIfInBounds_toArray, List.set_cons_zero, List.set_cons_succ]
          refine wpAnyT_one (i := 3) (by kernel_rfl) rfl (fun K hK => ?_)
          go_simp
          refine (HAH.out v3 k3).mono ?_
          rintro q v4 ⟨rfl, kd⟩
          dsimp only
          replace fr := (kd.block rb (lt_blk fr) (by simp)).trans fr
          replace fd := (kd.block db (lt_blk fd) (by simp)).trans fd
          replace ff := (kd.block fb (lt_blk ff) (by simp)).trans ff
          have S4 : (fun w' : World => w'.cell? ⟨sb, 2, none⟩ = some (.slice A n c) ∧ w'.cell? ⟨sb, 3, none⟩ = some (.int .i64 nr)) v4 := ⟨(kd.cell (p := ⟨sb, 2, none⟩) (World.block_lt_of_cell? _ _ S3.1) (by simp)).trans S3.1, (kd.cell (p := ⟨sb, 3, none⟩) (World.block_lt_of_cell? _ _ S3.2) (by simp)).trans S3.2⟩
          have k4 := k3.trans kd
          refine hK.out _ _ (.inr S4) ?_
          clear hK K kd
          try simp only [List.getElem_toArray, List.getElem_cons_succ, List.getElem_cons_zero, Act.put, List.setIfInBounds_toArray, List.set_cons_zero, List.set_cons_succ]
          refine wpAnyT_take (i := 4) (v := ?v4n24) rfl (by kernel_rfl) (by kernel_rfl) (by kernel_rfl) (by kernel_rfl) (fun _ _ _ h => h) (Or.inl ⟨by rfl, ?y4n24⟩) S4 ?_
          case y4n24 => (intro w hSw; (try dsimp only at hSw); go_simp; (try with_reducible rfl))
          simp only [List.getElem_toArray, List.getElem_cons_succ, List.getElem_cons_zero, Act.put, List.setIfInBounds_toArray, List.set_cons_zero, List.set_cons_succ]
          refine wpAnyT_one (i := 17) (by kernel_rfl) rfl (fun K hK => ?_)
          go_simp
          refine hK.out _ _ (.inr S4) ?_
          clear hK K
          refine wpAnyT_one (i := 18) (by kernel_rfl) rfl (fun K hK => ?_)
          go_simp
          refine hK.out _ _ (.inr ⟨((Kp.alloc [] v4 _).cell (p := ⟨sb, 2, none⟩) (World.block_lt_of_cell? _ _ S4.1) (by simp)).trans S4.1, ((Kp.alloc [] v4 _).cell (p := ⟨sb, 3, none⟩) (World.block_lt_of_cell? _ _ S4.2) (by simp)).trans S4.2⟩) ?_
          clear hK K
          refine wpAnyT_one (i := 19) (by kernel_rfl) rfl (fun K hK => ?_)
          go_simp
          refine hK.out _ _ (.inl rfl) ?_
          clear hK K
          refine wpAnyT_done (by kernel_rfl) ?_ _
          go_wp2_with fail
          go_meet
          case rel => exact ⟨_, db, fb, rb, rfl, mac_new (ah := ah) (sb := sb) k4 fd ff fr ld lf lr ndf ndr nfr (by omega) (by omega)⟩
      · refine step_make (by rfl) 68 (.tmp 18) (.tmp 18) (by rfl) nr (by rfl) (by rfl) 4 i1 (.bool false) Tryz.underlying68 HJ.out.1 HJ.out.2.1 HJ.out.2.2.1 (by rw [HJ.out.2.2.2]; omega) (by omega) ?_
        intro v2 fr kd
        obtain ⟨rb, hr⟩ : ∃ rb, rb = v1.heap.size := ⟨_, rfl⟩
        rw [← hr] at fr ⊢
        have lr : w.heap.size ≤ rb := by rw [hr]; exact k1.size
        have nfr : fb ≠ rb := by have := lt_blk ff; omega
        replace ff := (kd.block fb (lt_blk ff) (by simp)).trans ff
        have S2 : (fun w' : World => w'.cell? ⟨sb, 2, none⟩ = some (.slice A n c) ∧ w'.cell? ⟨sb, 3, none⟩ = some (.int .i64 nr)) v2 := ⟨(kd.cell (p := ⟨sb, 2, none⟩) (World.block_lt_of_cell? _ _ S1.1) (by simp)).trans S1.1, (kd.cell (p := ⟨sb, 3, none⟩) (World.block_lt_of_cell? _ _ S1.2) (by simp)).trans S1.2⟩
        have k2 := k1.trans kd
        clear hr
        refine hK.out _ _ (.inr S2) ?_
        clear hK K kd
        try simp only [List.getElem_toArray, List.getElem_cons_succ, List.getElem_cons_zero, Act.put, List.setIfInBounds_toArray, List.set_cons_zero, List.set_cons_succ]
        refine wpAnyT_one (i := 1) (by kernel_rfl) rfl (fun K hK => ?_)
        go_simp
        refine (deeds_any v2).mono ?_
        rintro q v3 ⟨rfl, fd, kd⟩
        dsimp only
        obtain ⟨db, hd⟩ : ∃ db, db = v2.heap.size := ⟨_, rfl⟩
        rw [← hd] at fd ⊢
        have ld : w.heap.size ≤ db := by rw [hd]; exact k2.size
        have ndr : db ≠ rb := by have := lt_blk fr; omega
        have ndf : db ≠ fb := by have := lt_blk ff; omega
        replace fr := (kd.block rb (lt_blk fr) (by simp)).trans fr
        replace ff := (kd.block fb (lt_blk ff) (by simp)).trans ff
        have S3 : (fun w' : World => w'.cell? ⟨sb, 2, none⟩ = some (.slice A n c) ∧ w'.cell? ⟨sb, 3, none⟩ = some (.int .i64 nr)) v3 := ⟨(kd.cell (p := ⟨sb, 2, none⟩) (World.block_lt_of_cell? _ _ S2.1) (by simp)).trans S2.1, (kd.cell (p := ⟨sb, 3, none⟩) (World.block_lt_of_cell? _ _ S2.2) (by simp)).trans S2.2⟩
        have k3 := k2.trans kd
        clear hd
        refine hK.out _ _ (.inr S3) ?_
        clear hK K kd
        try simp only [List.getElem_toArray, List.getElem_cons_succ, List.getElem_cons_zero, Act.put, List.setIfInBounds_toArray, List.set_cons_zero, List.set_cons_succ]
        refine wpAnyT_one (i := 3) (by kernel_rfl) rfl (fun K hK => ?_)
        go_simp
        refine (HAH.out v3 k3).mono ?_
        rintro q v4 ⟨rfl, kd⟩
        dsimp only
        replace fr := (kd.block rb (lt_blk fr) (by simp)).trans fr
        replace fd := (kd.block db (lt_blk fd) (by simp)).trans fd
        replace ff := (kd.block fb (lt_blk ff) (by simp)).trans ff
        have S4 : (fun w' : World => w'.cell? ⟨sb, 2, none⟩ = some (.slice A n c) ∧ w'.cell? ⟨sb, 3, none⟩ = some (.int .i64 nr)) v4 := ⟨(kd.cell (p := ⟨sb, 2, none⟩) (World.block_lt_of_cell? _ _ S3.1) (by simp)).trans S3.1, (kd.cell (p := ⟨sb, 3, none⟩) (World.block_lt_of_cell? _ _ S3.2) (by simp)).trans S3.2⟩
        have k4 := k3.trans kd
        refine hK.out _ _ (.inr S4) ?_
        clear hK K kd
        try simp only [List.getElem_toArray, List.getElem_cons_succ, List.getElem_cons_zero, Act.put, List.setIfInBounds_toArray, List.set_cons_zero, List.set_cons_succ]
        refine wpAnyT_take (i := 4) (v := ?v4n25) rfl (by kernel_rfl) (by kernel_rfl) (by kernel_rfl) (by kernel_rfl) (fun _ _ _ h => h) (Or.inl ⟨by rfl, ?y4n25⟩) S4 ?_
        case y4n25 => (intro w hSw; (try dsimp only at hSw); go_simp; (try with_reducible rfl))
        simp only [List.getElem_toArray, List.getElem_cons_succ, List.getElem_cons_zero, Act.put, List.setIfInBounds_toArray, List.set_cons_zero, List.set_cons_succ]
        refine wpAnyT_one (i := 17) (by kernel_rfl) rfl (fun K hK => ?_)
        go_simp
        refine hK.out _ _ (.inr S4) ?_
        clear hK K
        refine wpAnyT_one (i := 18) (by kernel_rfl) rfl (fun K hK => ?_)
        go_simp
        refine hK.out _ _ (.inr ⟨((Kp.alloc [] v4 _).cell (p := ⟨sb, 2, none⟩) (World.block_lt_of_cell? _ _ S4.1) (by simp)).trans S4.1, ((Kp.alloc [] v4 _).cell (p := ⟨sb, 3, none⟩) (World.block_lt_of_cell? _ _ S4.2) (by simp)).trans S4.2⟩) ?_
        clear hK K
        refine wpAnyT_one (i := 19) (by kernel_rfl) rfl (fun K hK => ?_)
        go_simp
        refine hK.out _ _ (.inl rfl) ?_
        clear hK K
        refine wpAnyT_done (by kernel_rfl) ?_ _
        go_wp2_with fail
        go_meet
        case rel => exact ⟨_, db, fb, rb, rfl, mac_new (ah := ah) (sb := sb) k4 fd ff fr ld lf lr ndf ndr nfr (by omega) (by omega)⟩
    · refine step_make (by rfl) 68 (.tmp 18) (.tmp 18) (by rfl) nr (by rfl) (by rfl) 4 i1 (.bool false) Tryz.underlying68 HJ.out.1 HJ.out.2.1 HJ.out.2.2.1 (by rw [HJ.out.2.2.2]; omega) (by omega) ?_
      intro v1 fr kd
      obtain ⟨rb, hr⟩ : ∃ rb, rb = v0.heap.size := ⟨_, rfl⟩
      rw [← hr] at fr ⊢
      have lr : w.heap.size ≤ rb := by rw [hr]; exact k0.size
      have S1 : (fun w' : World => w'.cell? ⟨sb, 2, none⟩ = some (.slice A n c) ∧ w'.cell? ⟨sb, 3, none⟩ = some (.int .i64 nr)) v1 := ⟨(kd.cell (p := ⟨sb, 2, none⟩) (World.block_lt_of_cell? _ _ S0.1) (by simp)).trans S0.1, (kd.cell (p := ⟨sb, 3, none⟩) (World.block_lt_of_cell? _ _ S0.2) (by simp)).trans S0.2⟩
      have k1 := k0.trans kd
      clear hr
      refine hK.out _ _ (.inr S1) ?_
      clear hK K kd
      try simp only [List.getElem_toArray, List.getElem_cons_succ, List.getElem_cons_zero, Act.put, List.setIfInBounds_toArray, List.set_cons_zero, List.set_cons_succ]
      refine wpAnyT_two (i := 1) (j := 10) (by kernel_rfl) rfl rfl (fun K hK => ?_) (fun K hK => ?_)
      · go_simp
        refine (deeds_any v1).mono ?_
        rintro q v2 ⟨rfl, fd, kd⟩
        dsimp only
        obtain ⟨db, hd⟩ : ∃ db, db = v1.heap.size := ⟨_, rfl⟩
        rw [← hd] at fd ⊢
        have ld : w.heap.size ≤ db := by rw [hd]; exact k1.size
        have ndr : db ≠ rb := by have := lt_blk fr; omega
        replace fr := (kd.block rb (lt_blk fr) (by simp)).trans fr
        have S2 : (fun w' : World => w'.cell? ⟨sb, 2, none⟩ = some (.slice A n c) ∧ w'.cell? ⟨sb, 3, none⟩ = some (.int .i64 nr)) v2 := ⟨(kd.cell (p := ⟨sb, 2, none⟩) (World.block_lt_of_cell? _ _ S1.1) (by simp)).trans S1.1, (kd.cell (p := ⟨sb, 3, none⟩) (World.block_lt_of_cell? _ _ S1.2) (by simp)).trans S1.2⟩
        have k2 := k1.trans kd
        clear hd
        refine hK.out _ _ (.inr S2) ?_
        clear hK K kd
        try simp only [List.getElem_toArray, List.getElem_cons_succ, List.getElem_cons_zero, Act.put, List.setIfInBounds_toArray, List.set_cons_zero, List.set_cons_succ]
        refine wpAnyT_two (i := 3) (j := 10) (by kernel_rfl) rfl rfl (fun K hK => ?_) (fun K hK => ?_)
        · go_simp
          refine (HAH.out v2 k2).mono ?_
          rintro q v3 ⟨rfl, kd⟩
          dsimp only
          replace fr := (kd.block rb (lt_blk fr) (by simp)).trans fr
          replace fd := (kd.block db (lt_blk fd) (by simp)).trans fd
          have S3 : (fun w' : World => w'.cell? ⟨sb, 2, none⟩ = some (.slice A n c) ∧ w'.cell? ⟨sb, 3, none⟩ = some (.int .i64 nr)) v3 := ⟨(kd.cell (p := ⟨sb, 2, none⟩) (World.block_lt_of_cell? _ _ S2.1) (by simp)).trans S2.1, (kd.cell (p := ⟨sb, 3, none⟩) (World.block_lt_of_cell? _ _ S2.2) (by simp)).trans S2.2⟩
          have k3 := k2.trans kd
          refine hK.out _ _ (.inr S3) ?_
          clear hK K kd
          try simp only [List.getElem_toArray, List.getElem_cons_succ, List.getElem_cons_zero, Act.put, List.setIfInBounds_toArray, List.set_cons_zero, List.set_cons_succ]
          refine wpAnyT_take (i := 4) (v := ?v4n26) rfl (by kernel_rfl) (by kernel_rfl) (by kernel_rfl) (by kernel_rfl) (fun _ _ _ h => h) (Or.inl ⟨by rfl, ?y4n26⟩) S3 ?_
          case y4n26 => (intro w hSw; (try dsimp only at hSw); go_simp; (try with_reducible rfl))
          simp only [List.getElem_toArray, List.getElem_cons_succ, List.getElem_cons_zero, Act.put, List.setIfInBounds_toArray, List.set_cons_zero, List.set_cons_succ]
          refine wpAnyT_one (i := 10) (by kernel_rfl) rfl (fun K hK => ?_)
          refine step_make (by rfl) 65 (.tmp 12) (.tmp 12) (by rfl) n (by rfl) (by rfl) 34 i0 (.slice none 0 0) Tryz.underlying65 HI.out.1 HI.out.2.1 HI.out.2.2.1 (by rw [HI.out.2.2.2]; omega) (by omega) ?_
          intro v4 ff kd
          obtain ⟨fb, hf⟩ : ∃ fb, fb = v3.heap.size := ⟨_, rfl⟩
          rw [← hf] at ff ⊢
          have lf : w.heap.size ≤ fb := by rw [hf]; exact k3.size
          have nfr : fb ≠ rb := by have := lt_blk fr; omega
          have ndf : db ≠ fb := by have := lt_blk fd; omega
          replace fr := (kd.block rb (lt_blk fr) (by simp)).trans fr
          replace fd := (kd.block db (lt_blk fd) (by simp)).trans fd
          have S4 : (fun w' : World => w'.cell? ⟨sb, 2, none⟩ = some (.slice A n c) ∧ w'.cell? ⟨sb, 3, none⟩ = some (.int .i64 nr)) v4 := ⟨(kd.cell (p := ⟨sb, 2, none⟩) (World.block_lt_of_cell? _ _ S3.1) (by simp)).trans S3.1, (kd.cell (p := ⟨sb, 3, none⟩) (World.block_lt_of_cell? _ _ S3.2) (by simp)).trans S3.2⟩
          have k4 := k3.trans kd
          clear hf
          refine hK.out _ _ (.inr S4) ?_
          clear hK K kd
          try simp only [List.getElem_toArray, List.getElem_cons_succ, List.getElem_cons_zero, Act.put, List.setIfInBounds_toArray, List.set_cons_zero, List.set_cons_succ]
          refine wpAnyT_take (i := 11) (v := ?v11n27) rfl (by kernel_rfl) (by kernel_rfl) (by kernel_rfl) (by kernel_rfl) (fun _ _ _ h => h) (Or.inl ⟨by rfl, ?y11n27⟩) S4 ?_
          case y11n27 => (intro w hSw; (try dsimp only at hSw); go_simp; (try with_reducible rfl))
          simp only [List.getElem_toArray, List.getElem_cons_succ, List.getElem_cons_zero, Act.put, List.setIfInBounds_toArray, List.set_cons_zero, List.set_cons_succ]
          refine wpAnyT_one (i := 17) (by kernel_rfl) rfl (fun K hK => ?_)
          go_simp
          refine hK.out _ _ (.inr S4) ?_
          clear hK K
          refine wpAnyT_one (i := 18) (by kernel_rfl) rfl (fun K hK => ?_)
          go_simp
          refine hK.out _ _ (.inr ⟨((Kp.alloc [] v4 _).cell (p := ⟨sb, 2, none⟩) (World.block_lt_of_cell? _ _ S4.1) (by simp)).trans S4.1, ((Kp.alloc [] v4 _).cell (p := ⟨sb, 3, none⟩) (World.block_lt_of_cell? _ _ S4.2) (by simp)).trans S4.2⟩) ?_
          clear hK K
          refine wpAnyT_one (i := 19) (by kernel_rfl) rfl (fun K hK => ?_)
          go_simp
          refine hK.out _ _ (.inl rfl) ?_
          clear hK K
          refine wpAnyT_done (by kernel_rfl) ?_ _
          go_wp2_with fail
          go_meet
          case rel => exact ⟨_, db, fb, rb, rfl, mac_new (ah := ah) (sb := sb) k4 fd ff fr ld lf lr ndf ndr nfr (by omega) (by omega)⟩
        · refine step_make (by rfl) 65 (.tmp 12) (.tmp 12) (by rfl) n (by rfl) (by rfl) 34 i0 (.slice none 0 0) Tryz.underlying65 HI.out.1 HI.out.2.1 HI.out.2.2.1 (by rw [HI.out.2.2.2]; omega) (by omega) ?_
          intro v3 ff kd
          obtain ⟨fb, hf⟩ : ∃ fb, fb = v2.heap.size := ⟨_, rfl⟩
          rw [← hf] at ff ⊢
          have lf : w.heap.size ≤ fb := by rw [hf]; exact k2.size
          have nfr : fb ≠ rb := by have := lt_blk fr; omega
          have ndf : db ≠ fb := by have := lt_blk fd; omega
          replace fr := (kd.block rb (lt_blk fr) (by simp)).trans fr
          replace fd := (kd.block db (lt_blk fd) (by simp)).trans fd
          have S3 : (fun w' : World => w'.cell? ⟨sb, 2, none⟩ = some (.slice A n c) ∧ w'.cell? ⟨sb, 3, none⟩ = some (.int .i64 nr)) v3 := ⟨(kd.cell (p := ⟨sb, 2, none⟩) (World.block_lt_of_cell? _ _ S2.1) (by simp)).trans S2.1, (kd.cell (p := ⟨sb, 3, none⟩) (World.block_lt_of_cell? _ _ S2.2) (by simp)).trans S2.2⟩
          have k3 := k2.trans kd
          clear hf
          refine hK.out _ _ (.inr S3) ?_
          clear hK K kd
          try simp only [List.getElem_toArray, List.getElem_cons_succ, List.getElem_cons_zero, Act.put, List.setIfInBounds_toArray, List.set_cons_zero, List.set_cons_succ]
          refine wpAnyT_take (i := 11) (v := ?v11n28) rfl (by kernel_rfl) (by kernel_rfl) (by kernel_rfl) (by kernel_rfl) (fun _ _ _ h => h) (Or.inl ⟨by rfl, ?y11n28⟩) S3 ?_
          case y11n28 => (intro w hSw; (try dsimp only at hSw); go_simp; (try with_reducible rfl))
          simp only [List.getElem_toArray, List.getElem_cons_succ, List.getElem_cons_zero, Act.put, List.setIfInBounds_toArray, List.set_cons_zero, List.set_cons_succ]
          refine wpAnyT_one (i := 3) (by kernel_rfl) rfl (fun K hK => ?_)
          go_simp
          refine (HAH.out v3 k3).mono ?_
          rintro q v4 ⟨rfl, kd⟩
          dsimp only
          replace fr := (kd.block rb (lt_blk fr) (by simp)).trans fr
          replace fd := (kd.block db (lt_blk fd) (by simp)).trans fd
          replace ff := (kd.block fb (lt_blk ff) (by simp)).trans ff
          have S4 : (fun w' : World => w'.cell? ⟨sb, 2, none⟩ = some (.slice A n c) ∧ w'.cell? ⟨sb, 3, none⟩ = some (.int .i64 nr)) v4 := ⟨(kd.cell (p := ⟨sb, 2, none⟩) (World.block_lt_of_cell? _ _ S3.1) (by simp)).trans S3.1, (kd.cell (p := ⟨sb, 3, none⟩) (World.block_lt_of_cell? _ _ S3.2) (by simp)).trans S3.2⟩
          have k4 := k3.trans kd
          refine hK.out _ _ (.inr S4) ?_
          clear hK K kd
          try simp only [List.getElem_toArray, List.getElem_cons_succ, List.getElem_cons_zero, Act.put, List.setIfInBounds_toArray, List.set_cons_zero, List.set_cons_succ]
          refine wpAnyT_take (i := 4) (v := ?v4n29) rfl (by kernel_rfl) (by kernel_rfl) (by kernel_rfl) (by kernel_rfl) (fun _ _ _ h => h) (Or.inl ⟨by rfl, ?y4n29⟩) S4 ?_
          case y4n29 => (intro w hSw; (try dsimp only at hSw); go_simp; (try with_reducible rfl))
          simp only [List.getElem_toArray, List.getElem_cons_succ, List.getElem_cons_zero, Act.put, List.setIfInBounds_toArray, List.set_cons_zero, List.set_cons_succ]
          refine wpAnyT_one (i := 17) (by kernel_rfl) rfl (fun K hK => ?_)
          go_simp
          refine hK.out _ _ (.inr S4) ?_
          clear hK K
          refine wpAnyT_one (i := 18) (by kernel_rfl) rfl (fun K hK => ?_)
          go_simp
          refine hK.out _ _ (.inr ⟨((Kp.alloc [] v4 _).cell (p := ⟨sb, 2, none⟩) (World.block_lt_of_cell? _ _ S4.1) (by simp)).trans S4.1, ((Kp.alloc [] v4 _).cell (p := ⟨sb, 3, none⟩) (World.block_lt_of_cell? _ _ S4.2) (by simp)).trans S4.2⟩) ?_
          clear hK K
          refine wpAnyT_one (i := 19) (by kernel_rfl) rfl (fun K hK => ?_)
          go_simp
          refine hK.out _ _ (.inl rfl) ?_
          clear hK K
          refine wpAnyT_done (by kernel_rfl) ?_ _
          go_wp2_with fail
          go_meet
          case rel => exact ⟨_, db, fb, rb, rfl, mac_new (ah := ah) (sb := sb) k4 fd ff fr ld lf lr ndf ndr nfr (by omega) (by omega)⟩
      · refine step_make (by rfl) 65 (.tmp 12) (.tmp 12) (by rfl) n (by rfl) (by rfl) 34 i0 (.slice none 0 0) Tryz.underlying65 HI.out.1 HI.out.2.1 HI.out.2.2.1 (by rw [HI.out.2.2.2]; omega) (by omega) ?_
        intro v2 ff kd
        obtain ⟨fb, hf⟩ : ∃ fb, fb = v1.heap.size := ⟨_, rfl⟩
        rw [← hf] at ff ⊢
        have lf : w.heap.size ≤ fb := by rw [hf]; exact k1.size
        have nfr : fb ≠ rb := by have := lt_blk fr; omega
        replace fr := (kd.block rb (lt_blk fr) (by simp)).trans fr
        have S2 : (fun w' : World => w'.cell? ⟨sb, 2, none⟩ = some (.slice A n c) ∧ w'.cell? ⟨sb, 3, none⟩ = some (.int .i64 nr)) v2 := ⟨(kd.cell (p := ⟨sb, 2, none⟩) (World.block_lt_of_cell? _ _ S1.1) (by simp)).trans S1.1, (kd.cell (p := ⟨sb, 3, none⟩) (World.block_lt_of_cell? _ _ S1.2) (by simp)).trans S1.2⟩
        have k2 := k1.trans kd
        clear hf
        refine hK.out _ _ (.inr S2) ?_
        clear hK K kd
        try simp only [List.getElem_toArray, List.getElem_cons_succ, List.getElem_cons_zero, Act.put, List.setIfInBounds_toArray, List.set_cons_zero, List.set_cons_succ]
        refine wpAnyT_take (i := 11) (v := ?v11n30) rfl (by kernel_rfl) (by kernel_rfl) (by kernel_rfl) (by kernel_rfl) (fun _ _ _ h => h) (Or.inl ⟨by rfl, ?y11n30⟩) S2 ?_
        case y11n30 => (intro w hSw; (try dsimp only at hSw); go_simp; (try with_reducible rfl))
        simp only [List.getElem_toArray, List.getElem_cons_succ, List.getElem_cons_zero, Act.put, List.setIfInBounds_toArray, List.set_cons_zero, List.set_cons_succ]
        refine wpAnyT_one (i := 1) (by kernel_rfl) rfl (fun K hK => ?_)
        go_simp
        refine (deeds_any v2).mono ?_
        rintro q v3 ⟨rfl, fd, kd⟩
        dsimp only
        obtain ⟨db, hd⟩ : ∃ db, db = v2.heap.size := ⟨_, rfl⟩
        rw [← hd] at fd ⊢
        have ld : w.heap.size ≤ db := by rw [hd]; exact k2.size
        have ndr : db ≠ rb := by have := lt_blk fr; omega
        have ndf : db ≠ fb := by have := lt_blk ff; omega
        replace fr := (kd.block rb (lt_blk fr) (by simp)).trans fr
        replace ff := (kd.block fb (lt_blk ff) (by simp)).trans ff
        have S3 : (fun w' : World => w'.cell? ⟨sb, 2, none⟩ = some (.slice A n c) ∧ w'.cell? ⟨sb, 3, none⟩ = some (.int .i64 nr)) v3 := ⟨(kd.cell (p := ⟨sb, 2, none⟩) (World.block_lt_of_cell? _ _ S2.1) (by simp)).trans S2.1, (kd.cell (p := ⟨sb, 3, none⟩) (World.block_lt_of_cell? _ _ S2.2) (by simp)).trans S2.2⟩
        have k3 := k2.trans kd
        clear hd
        refine hK.out _ _ (.inr S3) ?_
        clear hK K kd
        try simp only [List.getElem_toArray, List.getElem_cons_succ, List.getElem_cons_zero, Act.put, List.setIfInBounds_toArray, List.set_cons_zero, List.set_cons_succ]
        refine wpAnyT_one (i := 3) (by kernel_rfl) rfl (fun K hK => ?_)
        go_simp
        refine (HAH.out v3 k3).mono ?_
        rintro q v4 ⟨rfl, kd⟩
        dsimp only
        replace fr := (kd.block rb (lt_blk fr) (by simp)).trans fr
        replace fd := (kd.block db (lt_blk fd) (by simp)).trans fd
        replace ff := (kd.block fb (lt_blk ff) (by simp)).trans ff
        have S4 : (fun w' : World => w'.cell? ⟨sb, 2, none⟩ = some (.slice A n c) ∧ w'.cell? ⟨sb, 3, none⟩ = some (.int .i64 nr)) v4 := ⟨(kd.cell (p := ⟨sb, 2, none⟩) (World.block_lt_of_cell? _ _ S3.1) (by simp)).trans S3.1, (kd.cell (p := ⟨sb, 3, none⟩) (World.block_lt_of_cell? _ _ S3.2) (by simp)).trans S3.2⟩
        have k4 := k3.trans kd
        refine hK.out _ _ (.inr S4) ?_
        clear hK K kd
        try simp only [List.getElem_toArray, List.getElem_cons_succ, List.getElem_cons_zero, Act.put, List.setIfInBounds_toArray, List.set_cons_zero, List.set_cons_succ]
        refine wpAnyT_take (i := 4) (v := ?v4n31) rfl (by kernel_rfl) (by kernel_rfl) (by kernel_rfl) (by kernel_rfl) (fun _ _ _ h => h) (Or.inl ⟨by rfl, ?y4n31⟩) S4 ?_
        case y4n31 => (intro w hSw; (try dsimp only at hSw); go_simp; (try with_reducible rfl))
        simp only [List.getElem_toArray, List.getElem_cons_succ, List.getElem_cons_zero, Act.put, List.setIfInBounds_toArray, List.set_cons_zero, List.set_cons_succ]
        refine wpAnyT_one (i := 17) (by kernel_rfl) rfl (fun K hK => ?_)
        go_simp
        refine hK.out _ _ (.inr S4) ?_
        clear hK K
        refine wpAnyT_one (i := 18) (by kernel_rfl) rfl (fun K hK => ?_)
        go_simp
        refine hK.out _ _ (.inr ⟨((Kp.alloc [] v4 _).cell (p := ⟨sb, 2, none⟩) (World.block_lt_of_cell? _ _ S4.1) (by simp)).trans S4.1, ((Kp.alloc [] v4 _).cell (p := ⟨sb, 3, none⟩) (World.block_lt_of_cell? _ _ S4.2) (by simp)).trans S4.2⟩) ?_
        clear hK K
        refine wpAnyT_one (i := 19) (by kernel_rfl) rfl (fun K hK => ?_)
        go_simp
        refine hK.out _ _ (.inl rfl) ?_
        clear hK K
        refine wpAnyT_done (by kernel_rfl) ?_ _
        go_wp2_with fail
        go_meet
        case rel => exact ⟨_, db, fb, rb, rfl, mac_new (ah := ah) (sb := sb) k4 fd ff fr ld lf lr ndf ndr nfr (by omega) (by omega)⟩
  case rest =>
  obtain ⟨mb, db, fb, rb, rfl, hm⟩ := hcut
  go_wp2_with fail
  go_ret
  exact ⟨mb, db, fb, rb, rfl, hm⟩
end Go.Proofs.YtonnimbcekhbgaaGreatDoor
