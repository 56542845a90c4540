/- What the claim needs of: EL. -/
import Derived.Test.YtonnimbcekhbgaaGreatDoorX05
import Derived.Test.YtonnimbcekhbgaaGreatDoorX06

/- EL. -/
namespace Go.Proofs.YtonnimbcekhbgaaGreatDoor
open Go.RowKit

theorem step_app {P : Program} {ops : Array Oper} {o : Oper} {a : Act} {w : World} {K : Act → World → Prop} {Q : Exit → Act → World → Prop} {E : Prop}
    (hg : o.guard = none) (s x : Operand) (t : TypeId) (hop : o.op = Op.call { callee := Callee.builtin Builtin.append, args := #[s, x], argTypes := #[t, t] })
    (base : Nat) (e : TypeId) (i : TypeInfo) (z : Value) (size bytes : Nat) (h1 : P.underlying t = some (.slice e)) (h2 : P.info? e = some i) (h3 : i.zero = some z) (h4 : i.size = size) (h5 : i.bytes = bytes) (h6 : z.cells.size = size) (h7 : 0 < size)
    (v : Value) (n : Nat) (xs : List Value) (hs : a.eval s = v) (hown : w.ownsRow base e size v n xs)
    (ad : Addr) (m c : Nat) (news : List Value) (hx : a.eval x = .slice (some ad) m c) (hn : news.length = m * size) (hc : ∀ j u, news[j]? = some u → w.cell? (ad.add j) = some u) (h1c : ∀ u ∈ news, u.oneCell' = true)
    (b1 : n + m ≤ maxLen) (b2 : (n + m) * bytes ≤ 140737488355328) (hbase : base ≤ w.heap.size) (hm : 0 < m)
    (hK : ∀ g cap w', w'.ownsRow base e size (.slice (some ⟨g, 0, none⟩) (n + m) cap) (n + m) (xs ++ news) → w.grownBy w' v.ownBlock → (v.ownBlock = some g ∨ w.heap.size ≤ g) → K (a.put o.dst (.slice (some ⟨g, 0, none⟩) (n + m) cap)) w') :
    if Region.wanted o (yielded ops a.tmps) = true then Oper.wp P o a w K Q else E := by
  have hw : Region.wanted o (yielded ops a.tmps) = true := by simp [Region.wanted, hg]
  rw [if_pos hw]
  obtain ⟨g, cap, w', hrun, r1, r2, r3⟩ := run_app (P := P) (ty := o.type) h1 h2 h3 h4 h5 h6 h7 hown hn hc h1c b1 b2 hbase hm (c := c)
  unfold Oper.wp
  simp [execOp, hop, resolve, invoke, builtin, hs, hx, hrun, Result.andThen]
  exact hK g cap w' r1 r2 r3

/-- A new variable of a struct's type is written whole. -/
theorem wpList_newVar {P : Program} {ops : Array Oper} {rest : List Oper} {op : Oper} {a : Act} {w1 : World} {Q : Exit → Act → World → Prop} (hgd : op.guard = none) (ty : TypeId) (x y : Operand) (ho : op.op = .store ty x y) (zs : List Value) (T : TypeId) (cells : List Value)
    (hx : a.eval x = .pointer (some ⟨w1.heap.size, 0, none⟩)) (hy : a.eval y = .agg cells.toArray) (hl : cells.length = zs.length) (hi : (P.info? ty).map (·.size) = some cells.length) (h1 : ∀ u ∈ cells, u.oneCell' = true)
    (h : ∀ w2, Bl w2 w1.heap.size cells → Kp [] w1 w2 → wpList P ops Q rest (a.put op.dst undef) w2) : wpList P ops Q (op :: rest) a (w1.alloc (.cells zs.toArray T)) := by
  have B := Bl.alloc w1 zs T
  refine wpList_store_mid hgd ty x y ho w1.heap.size 0 cells.toArray hx hy (fun j hj => ?_) (by simpa using hi) (all_oneCell_toArray h1) (h _ ?_ ?_)
  · have hj' : j < zs.length := by rw [← hl]; simpa using hj
    rw [Nat.zero_add, B.at_ j _ (List.getElem?_eq_getElem hj')]
    exact ⟨rfl, B.free j⟩
  · exact B.put hl
  · exact (((Kp.alloc _ _ _).trans (kp_setCells (S := [w1.heap.size]) (by simp) _ _ _)).own (Nat.le_refl _))
theorem Tryz.szCommand : (Tryz.prog.info? 100).map (·.size) = some 23 := by kernel_rfl

theorem Tryz.infoCommand : (Tryz.prog.info? 100).map (fun i => (i.zero, i.size, i.bytes)) = some (some (.agg (cmdV (.slice none 0 0) 0 false 0).toArray), 23, 296) := by kernel_rfl

/-- What has come of a command that was read. -/
def CmdRead (w0 w' : World) (b : Nat) (src : ByteArray) (k5 : Nat) (σ : Sst) (L : List Adr) (nt : Bool) (x : Nat) (R : Sst → List Value → Sst → List Value → Prop) : Prop :=
  ∃ A c fs σ' cv' v', AdrsV fs (.slice A L.length c) L ∧ (∀ f ∈ σ.fs, f ∈ fs) ∧
    R { σ with ranges := if L.length = 2 then σ.ranges + 1 else σ.ranges, fs := fs } (cmdV (.slice A L.length c) (if L.length = 2 then σ.ranges else 0) nt x) σ' cv' ∧ Sr w0 w' b src k5 { σ' with vc := v', cs := σ'.cs ++ [cv'] }

set_option maxRecDepth 100000 in
set_option maxHeartbeats 8000000 in
theorem command_p {w0 w : World} {b : Nat} {src : ByteArray} {k k1 k3 k5 e f i x : Nat} {nt : Bool} {σ : Sst} {L : List Adr} {R : Sst → List Value → Sst → List Value → Prop} (hs : Sr w0 w b src k σ) (hA : AdrsOk src k k1 L)
    (hN : (nt = false ∧ saw src (blk src k1) 33 = false ∧ k3 = blk src k1) ∨ (nt = true ∧ saw src (blk src k1) 33 = true ∧ k3 = blk src (blk src k1 + 1)))
    (hk : k3 < src.size) (hx : (src[k3]).toNat = x) (ht : Instr.findNow (.int .u8) (.int .u8 x) (tabE 0 opsL) 0 = some (some (i, .func (.func f) #[] #[]))) (hbare : (x = 125 ∨ x = 58) → L = [] ∧ nt = false)
    (ho : ∀ r fs, OpAt w0 f b src (k3 + 1) e { σ with ranges := r, fs := fs } R) (hce : Enters f) (hR : ∀ σ cv σ' cv', R σ cv σ' cv' → cv'[3]? = cv[3]? ∧ σ'.cs.length = σ.cs.length) (hE : (x = 123 ∧ k5 = e) ∨ (x ≠ 123 ∧ mayEnd src (blk src e) = true ∧ k5 = blk src e)) (hn : σ.cs.length ≤ 2000) (hrg : σ.ranges ≤ 2000) (hsl : Small σ 2000) :
    Calls Tryz.prog 80 #[.pointer (some ⟨b, 0, none⟩)] w fun r w' => r = .returned (.tuple #[]) ∧ CmdRead w0 w' b src k5 σ L nt x R := by
  have hlt := hs.cur.lt
  have HA := hid hA
  have HN := hid hN
  have HT := hid ht
  have HB := hid hbare
  have HO := hid ho
  have HC := hid hce
  have HR := hid hR
  have HE := hid hE
  have HX := hid hx
  clear hA hN ht hbare ho hce hR hE hx
  go_enter Tryz.func80, Tryz.ntmps80
  go_wp2_with fail
  refine (addresses_any hs HA.out).mono ?_
  rintro r w1 ⟨A, c, fs, rfl, av, fsub, s1, kp1⟩
  have HAV := hid av
  have HFS := hid fsub
  clear av fsub
  have HCV := hid (cmdV_ok A L.length c 0 false 0)
  go_upto_if 9 with (refine wpList_newVar (w1 := w1) rfl 100 (.tmp 2) (.tmp 5) rfl (cmdV (.slice none 0 0) 0 false 0) 100 (cmdV (.slice A L.length c) 0 false 0) rfl rfl rfl Tryz.szCommand HCV.out.one ?_; intro w2 b2 k2; have e0 := b2.at_ 0 _ rfl)
  have s2 := s1.keep k2
  have hne : w1.heap.size ≠ b := by have := s1.cur.lt; omega
  have far2 := s1.far_new (Nat.le_refl w1.heap.size)
  obtain ⟨cb, hcb⟩ : ∃ cb, cb = w1.heap.size := ⟨_, rfl⟩
  rw [← hcb] at hne far2 b2 ⊢
  clear hcb s1 k2 e0 kp1 hs HA
  obtain ⟨rn, hrn⟩ : ∃ rn, rn = if L.length = 2 then σ.ranges else 0 := ⟨_, rfl⟩
  obtain ⟨σ1, hσ1⟩ : ∃ σ1 : Sst, σ1 = { σ with ranges := if L.length = 2 then σ.ranges + 1 else σ.ranges, fs := fs } := ⟨_, rfl⟩
  have HRN := hid hrn
  have HS1 := hid hσ1
  have HSL : Hid (Small σ1 2000) := hid (by rw [hσ1]; exact ⟨hsl.ns, hsl.bs, hsl.gs⟩)
  clear hrn hσ1 hsl
  go_cut [5] from 10 (fun _ wx => Sr w0 wx b src k1 σ1 ∧ Bl wx cb (cmdV (.slice A L.length c) rn false 0))
  case first =>
    by_cases hL : L.length = 2
    · have g1 : ((L.length : Int) == 2) = true := by rw [hL]; rfl
      have c6 : w2.cell? ⟨b, 6, none⟩ = some (.int .i64 σ.ranges) := s2.c.c6
      have f6 := s2.cur.free 6
      have e1 := b2.at_ 1 _ rfl
      have f1 := b2.free 1
      have wr := wrap_i64_succ σ.ranges (σ.ranges + 1) rfl (by omega)
      go_wp2_with fail
      go_meet
      case rel =>
        have k3 : Kp [cb] w2 (w2.setCell ⟨cb, 1, none⟩ (.int .i64 σ.ranges)) := Kp.setCell _ _ (by simp)
        have s3 := (s2.other k3 (fun y hy => by simp at hy; rw [hy]; exact far2)).ranged (σ.ranges + 1)
        have b3 := (b2.set 1 (.int .i64 σ.ranges) (by show 1 < 23; omega)).keep (Kp.setCell (S := [b]) (p := ⟨b, 6, none⟩) _ (.int .i64 ((σ.ranges + 1 : Nat) : Int)) (by simp)) (by simpa using hne)
        rw [HS1.out, HRN.out, if_pos hL, if_pos hL]
        exact ⟨s3, b3⟩
    · have g1 : ((L.length : Int) == 2) = false := by rw [beq_eq_false_iff_ne]; omega
      go_wp2_with fail
      go_meet
      case rel =>
        rw [HS1.out, HRN.out, if_neg hL, if_neg hL]
        exact ⟨s2, b2⟩
  case rest =>
  obtain ⟨s3, b3⟩ := hcut
  clear b2 s2 w2
  have far3 : Sr.Far w0 b σ1 cb := by
    refine ⟨far2.lo, fun i => ?_, fun f hf => far2.fx f ?_⟩
    · rw [HS1.out]; exact far2.bk i
    · rw [HS1.out] at hf; exact hf
  clear far2
  obtain ⟨k2, hk2⟩ : ∃ k2, k2 = blk src k1 := ⟨_, rfl⟩
  have HK2 := hid hk2
  clear hk2
  go_wp2_with fail
  refine (blanks_v s3.cur).mono ?_
  rintro r w4 ⟨rfl, h4, m4⟩
  rw [← HK2.out] at h4
  have s4 := s3.move m4 h4
  have b4 := b3.keep m4.kp (by simpa using hne)
  clear s3 b3 m4 h4
  go_upto_if 30 with (go_at_call 116; refine (take_v 33 s4.cur rfl).mono ?_; rintro r w5 ⟨rfl, h5, m5⟩)
  have s5 := s4.move m5 h5
  have b5 := b4.keep m5.kp (by simpa using hne)
  clear s4 b4 m5 h5
  go_cut [5] from 30 (fun _ wx => Sr w0 wx b src k3 σ1 ∧ Bl wx cb (cmdV (.slice A L.length c) rn nt 0))
  case first =>
    rcases HN.out with ⟨hnt, h33, hk3⟩ | ⟨hnt, h33, hk3⟩
    · subst hnt
      rw [← HK2.out] at h33 hk3
      rw [h33] at s5 ⊢
      go_wp2_with fail
      go_meet
      case rel =>
        rw [hk3]
        exact ⟨s5, b5⟩
    · subst hnt
      rw [← HK2.out] at h33 hk3
      rw [h33] at s5 ⊢
      have e2 := b5.at_ 2 _ rfl
      have f2 := b5.free 2
      have k6 : Kp [cb] w5 (w5.setCell ⟨cb, 2, none⟩ (.bool true)) := Kp.setCell _ _ (by simp)
      have s6 := s5.other k6 (fun y hy => by simp at hy; rw [hy]; exact far3)
      have b6 := b5.set 2 (.bool true) (by show 2 < 23; omega)
      go_wp2_with fail
      refine (blanks_v s6.cur).mono ?_
      rintro r w7 ⟨rfl, h7, m7⟩
      go_wp2_with fail
      go_meet
      case rel =>
        rw [hk3]
        exact ⟨s6.move m7 h7, b6.keep m7.kp (by simpa using hne)⟩
  case rest =>
  obtain ⟨s6, b6⟩ := hcut
  clear b5 s5 w5
  go_wp2_with fail
  refine (what_v (nt := nt) s6 b6 (cmdV_ok _ _ _ _ _ _) rfl far3 HSL.out hk HX.out HT.out rfl rfl (fun h => ⟨by rw [(HB.out h).1]; rfl, (HB.out h).2⟩) (HS1.out ▸ HO.out _ _) HC.out).mono ?_
  rintro r w7 ⟨σ', cv, rfl, s7, b7, hcv, far7, hR⟩
  have hr3 := (HR.out _ _ _ _ hR).1
  have hrc := (HR.out _ _ _ _ hR).2
  have HRR : Hid (R σ1 (cmdV (.slice A L.length c) rn nt x) σ' cv) := hid hR
  have hc3 : cv[3]? = some (.int .u8 x) := hr3
  have hcl : σ'.cs.length = σ.cs.length := hrc.trans (by rw [HS1.out])
  clear hR hr3 hrc s6 b6
  obtain ⟨x0, x1, x2, x3, x4, x5, x6, x7, x8, x9, x10, x11, x12, x13, x14, x15, x16, x17, x18, x19, x20, x21, x22, hcve⟩ := cv_all hcv.len
  obtain rfl : x3 = .int .u8 x := by rw [hcve] at hc3; injection hc3
  have HB7 := hid b7
  have HS7 := hid s7
  have c4 := s7.c.c4
  have f4 := s7.cur.free 4
  have e0 := b7.at_ 0 _ (by rw [hcve]; rfl)
  have e1 := b7.at_ 1 _ (by rw [hcve]; rfl)
  have e2 := b7.at_ 2 _ (by rw [hcve]; rfl)
  have e3 := b7.at_ 3 _ (by rw [hcve]; rfl)
  have e4 := b7.at_ 4 _ (by rw [hcve]; rfl)
  have e5 := b7.at_ 5 _ (by rw [hcve]; rfl)
  have e6 := b7.at_ 6 _ (by rw [hcve]; rfl)
  have e7 := b7.at_ 7 _ (by rw [hcve]; rfl)
  have e8 := b7.at_ 8 _ (by rw [hcve]; rfl)
  have e9 := b7.at_ 9 _ (by rw [hcve]; rfl)
  have e10 := b7.at_ 10 _ (by rw [hcve]; rfl)
  have e11 := b7.at_ 11 _ (by rw [hcve]; rfl)
  have e12 := b7.at_ 12 _ (by rw [hcve]; rfl)
  have e13 := b7.at_ 13 _ (by rw [hcve]; rfl)
  have e14 := b7.at_ 14 _ (by rw [hcve]; rfl)
  have e15 := b7.at_ 15 _ (by rw [hcve]; rfl)
  have e16 := b7.at_ 16 _ (by rw [hcve]; rfl)
  have e17 := b7.at_ 17 _ (by rw [hcve]; rfl)
  have e18 := b7.at_ 18 _ (by rw [hcve]; rfl)
  have e19 := b7.at_ 19 _ (by rw [hcve]; rfl)
  have e20 := b7.at_ 20 _ (by rw [hcve]; rfl)
  have e21 := b7.at_ 21 _ (by rw [hcve]; rfl)
  have e22 := b7.at_ 22 _ (by rw [hcve]; rfl)
  obtain ⟨i0, hi, hz0, hz1, hz2⟩ := info_parts Tryz.infoCommand
  have HI := hid (And.intro hi (And.intro hz0 (And.intro hz1 hz2)))
  have HCE := hid hcve
  have HCV2 := hid hcv
  have hcl2 : σ'.cs.length ≤ 2000 := by omega
  have hlt7 := s7.cur.lt
  have hw07 := s7.r.kp.size
  clear hi hz0 hz1 hz2 hcve hcv hcl hc3 b7 s7 HN HT HB HO HC HR hn hrg
  go_upto_region 9 with fail
  go_cut [5] from 36 (fun _ wx => ∃ v', Sr w0 wx b src e { σ' with vc := v', cs := σ'.cs ++ [cv] } ∧ Bl wx cb cv)
  case first =>
    obtain ⟨o, ho⟩ : ∃ o : Obj, o = .cells [x0, x1, x2, .int .u8 x, x4, x5, x6, x7, x8, x9, x10, x11, x12, x13, x14, x15, x16, x17, x18, x19, x20, x21, x22].toArray 100 := ⟨_, rfl⟩
    have k8 : Kp [] w7 (w7.drew.alloc o) := (Kp.drew _ _).trans (Kp.alloc _ _ _)
    have s8 := HS7.out.keep k8
    have r7 : w7.rangeAt cb 0 [x0, x1, x2, .int .u8 x, x4, x5, x6, x7, x8, x9, x10, x11, x12, x13, x14, x15, x16, x17, x18, x19, x20, x21, x22] := by rw [← HCE.out]; exact HB7.out.range
    have r8 : (w7.drew.alloc o).rangeAt cb 0 [x0, x1, x2, .int .u8 x, x4, x5, x6, x7, x8, x9, x10, x11, x12, x13, x14, x15, x16, x17, x18, x19, x20, x21, x22] := by rw [← HCE.out]; exact (HB7.out.keep k8 (by simp)).range
    have OW : Hid ((w7.drew.alloc o).ownsRow w0.heap.size 100 23 σ'.vc σ'.cs.length σ'.cs.flatten) := hid s8.r.o4
    have NW : Hid (∀ j u, [x0, x1, x2, .int .u8 x, x4, x5, x6, x7, x8, x9, x10, x11, x12, x13, x14, x15, x16, x17, x18, x19, x20, x21, x22][j]? = some u → (w7.drew.alloc o).cell? ((⟨w7.heap.size, 0, none⟩ : Addr).add j) = some u) := hid (fun j u hu => by
      rw [Addr.add_mid, Nat.zero_add, ho]
      exact (Bl.alloc w7.drew _ 100).at_ j u hu)
    have ON : Hid (∀ u ∈ [x0, x1, x2, .int .u8 x, x4, x5, x6, x7, x8, x9, x10, x11, x12, x13, x14, x15, x16, x17, x18, x19, x20, x21, x22], u.oneCell' = true) := hid (by rw [← HCE.out]; exact HCV2.out.one)
    have HG : Hid (∀ w8, (w7.drew.alloc o).grownBy w8 σ'.vc.ownBlock → w8.cell? ⟨b, 4, none⟩ = some σ'.vc ∧ w8.frozen? ⟨b, 4, none⟩ = false ∧ w8.rangeAt cb 0 [x0, x1, x2, .int .u8 x, x4, x5, x6, x7, x8, x9, x10, x11, x12, x13, x14, x15, x16, x17, x18, x19, x20, x21, x22]) := hid (fun w8 hg => by
      have hb2 : w8.heap[b]? = (w7.drew.alloc o).heap[b]? := hg.block b s8.cur.lt (fun e => by have := s8.r.bk.ne 0 4 b rfl (by first | exact e | exact e.symm); omega)
      have hb3 : w8.heap[cb]? = (w7.drew.alloc o).heap[cb]? := hg.block cb (Nat.lt_of_lt_of_le HB7.out.lt k8.size) (fun e => far7.bk 4 (by first | exact e | exact e.symm))
      exact ⟨(World.cell?_of_block hb2).trans s8.c.c4, (World.frozen?_of_block hb2).trans (s8.cur.free 4), fun j u hu => (World.cell?_of_block hb3).trans (r8 j u hu)⟩)
    have hsz : w0.heap.size ≤ (w7.drew.alloc o).heap.size := Nat.le_trans hw07 k8.size
    have HSZ := hid hsz
    have HK8 := hid k8
    have c48 : (w7.drew.alloc o).cell? ⟨b, 4, none⟩ = some σ'.vc := s8.c.c4
    have hS : (fun w' : World => w'.cell? ⟨b, 4, none⟩ = some σ'.vc ∧ w'.rangeAt cb 0 [x0, x1, x2, .int .u8 x, x4, x5, x6, x7, x8, x9, x10, x11, x12, x13, x14, x15, x16, x17, x18, x19, x20, x21, x22]) w7.drew := ⟨c4, r7⟩
    have hS8 : (fun w' : World => w'.cell? ⟨b, 4, none⟩ = some σ'.vc ∧ w'.rangeAt cb 0 [x0, x1, x2, .int .u8 x, x4, x5, x6, x7, x8, x9, x10, x11, x12, x13, x14, x15, x16, x17, x18, x19, x20, x21, x22]) (w7.drew.alloc o) := ⟨c48, r8⟩
    have HS8 := hid hS8
    rw [ho] at OW NW HG HSZ HK8 HS8
    clear hsz k8 hS8 c48 s8 r7 r8
    refine wp_region_T (fun w' => w'.cell? ⟨b, 4, none⟩ = some σ'.vc ∧ w'.rangeAt cb 0 [x0, x1, x2, .int .u8 x, x4, x5, x6, x7, x8, x9, x10, x11, x12, x13, x14, x15, x16, x17, x18, x19, x20, x21, x22]) 12 (by kernel_rfl) ?_
    refine wpAnyT_take (i := 0) (v := ?v0) rfl (by kernel_rfl) (by kernel_rfl) (by kernel_rfl) (by kernel_rfl) (fun _ _ _ h => h) (Or.inl ⟨by rfl, ?y0⟩) hS ?_
    case y0 => (intro w hSw; (try dsimp only at hSw); go_simp; (try with_reducible rfl))
    simp only [List.getElem_toArray, List.getElem_cons_zero, Act.put, List.setIfInBounds_toArray, List.set_cons_zero, List.set_cons_succ]
    refine wpAnyT_take (i := 1) (v := ?v1) rfl (by kernel_rfl) (by kernel_rfl) (by kernel_rfl) (by kernel_rfl) (fun _ _ _ h => h) (Or.inl ⟨by rfl, ?y1⟩) hS ?_
    case y1 => (intro w hSw; (try dsimp only at hSw); go_simp; (try with_reducible rfl))
    simp only [List.getElem_toArray, List.getElem_cons_succ, List.getElem_cons_zero, Act.put, List.setIfInBounds_toArray, List.set_cons_zero, List.set_cons_succ]
    refine wpAnyT_take (i := 2) (v := ?v2) rfl (by kernel_rfl) (by kernel_rfl) (by kernel_rfl) (by kernel_rfl) (fun _ _ _ h => h) (Or.inl ⟨by rfl, ?y2⟩) hS ?_
    case y2 => (intro w hSw; (try dsimp only at hSw); go_simp; (try with_reducible rfl))
    simp only [List.getElem_toArray, List.getElem_cons_succ, List.getElem_cons_zero, Act.put, List.setIfInBounds_toArray, List.set_cons_zero, List.set_cons_succ]
    refine wpAnyT_take (i := 3) (v := ?v3) rfl (by kernel_rfl) (by kernel_rfl) (by kernel_rfl) (by kernel_rfl) (fun _ _ _ h => h) (Or.inl ⟨by rfl, ?y3⟩) hS ?_
    case y3 => (intro w hSw; (try dsimp only at hSw); go_simp; (try with_reducible rfl))
    simp only [List.getElem_toArray, List.getElem_cons_succ, List.getElem_cons_zero, Act.put, List.setIfInBounds_toArray, List.set_cons_zero, List.set_cons_succ]
    refine wpAnyT_take (i := 4) (v := ?v4) rfl (by kernel_rfl) (by kernel_rfl) (by kernel_rfl) (by kernel_rfl) (fun _ _ _ h => h) (Or.inl ⟨by rfl, ?y4⟩) hS ?_
    case y4 => (intro w hSw; (try dsimp only at hSw); go_simp; (try with_reducible rfl))
    simp only [List.getElem_toArray, List.getElem_cons_succ, List.getElem_cons_zero, Act.put, List.setIfInBounds_toArray, List.set_cons_zero, List.set_cons_succ]
    refine wpAnyT_take (i := 5) (v := ?v5) rfl (by kernel_rfl) (by kernel_rfl) (by kernel_rfl) (by kernel_rfl) (fun _ _ _ h => h) (Or.inl ⟨by rfl, ?y5⟩) hS ?_
    case y5 => (intro w hSw; (try dsimp only at hSw); go_simp; (try with_reducible rfl))
    simp only [List.getElem_toArray, List.getElem_cons_succ, List.getElem_cons_zero, Act.put, List.setIfInBounds_toArray, List.set_cons_zero, List.set_cons_succ]
    refine' wpAnyT_take (i := 6) (v := _) rfl (by kernel_rfl) (by kernel_rfl) (by kernel_rfl) (by kernel_rfl) (fun _ _ _ h => h) (yieldsIf_load_mid (by rfl) _ _ rfl _ _ rfl ([x0, x1, x2, .int .u8 x, x4, x5, x6, x7, x8, x9, x10, x11, x12, x13, x14, x15, x16, x17, x18, x19, x20, x21, x22]) _ ?hS6 ?hu6 ?hd6 ?hi6) hS ?r6
    case hS6 => (intro w hw; exact hw.2)
    case hu6 => exact Tryz.underlying100
    case hd6 => rfl
    case hi6 => exact Tryz.szCommand
    simp only [List.getElem_toArray, List.getElem_cons_succ, List.getElem_cons_zero, Act.put, List.setIfInBounds_toArray, List.set_cons_zero, List.set_cons_succ]
    refine wpAnyT_one (i := 7) (by kernel_rfl) rfl (fun K hK => ?_)
    refine step_one (by rfl) 48 100 (.tmp 42) (by rfl) [x0, x1, x2, .int .u8 x, x4, x5, x6, x7, x8, x9, x10, x11, x12, x13, x14, x15, x16, x17, x18, x19, x20, x21, x22] i0 _ 23 (by rfl) Tryz.underlying48 HI.out.1 HI.out.2.1 HI.out.2.2.1 rfl rfl (by omega) (by omega) ?_
    refine hK.out _ _ (.inr HS8.out) ?_
    clear hK K
    simp only [List.getElem_toArray, List.getElem_cons_succ, List.getElem_cons_zero, Act.put, List.setIfInBounds_toArray, List.set_cons_zero, List.set_cons_succ]
    refine wpAnyT_one (i := 8) (by kernel_rfl) rfl (fun K hK => ?_)
    refine step_app (by rfl) (.tmp 41) (.tmp 43) 48 (by rfl) w0.heap.size 100 i0 _ 23 296 Tryz.underlying48 HI.out.1 HI.out.2.1 HI.out.2.2.1 HI.out.2.2.2 rfl (by decide) σ'.vc σ'.cs.length σ'.cs.flatten (by rfl) OW.out ⟨w7.heap.size, 0, none⟩ 1 1 [x0, x1, x2, .int .u8 x, x4, x5, x6, x7, x8, x9, x10, x11, x12, x13, x14, x15, x16, x17, x18, x19, x20, x21, x22] (by rfl) rfl NW.out ON.out (by unfold maxLen; omega) (by omega) HSZ.out (by omega) ?_
    intro g cap w8 ho8 hg8 hor8
    have S8 : (fun w' : World => w'.cell? ⟨b, 4, none⟩ = some σ'.vc ∧ w'.rangeAt cb 0 [x0, x1, x2, .int .u8 x, x4, x5, x6, x7, x8, x9, x10, x11, x12, x13, x14, x15, x16, x17, x18, x19, x20, x21, x22]) w8 := ⟨(HG.out w8 hg8).1, (HG.out w8 hg8).2.2⟩
    have c4' := (HG.out w8 hg8).1
    have f4' := (HG.out w8 hg8).2.1
    refine hK.out _ _ (.inr S8) ?_
    clear hK K
    simp only [List.getElem_toArray, List.getElem_cons_succ, List.getElem_cons_zero, Act.put, List.setIfInBounds_toArray, List.set_cons_zero, List.set_cons_succ]
    refine wpAnyT_one (i := 9) (by kernel_rfl) rfl (fun K hK => ?_)
    go_simp
    refine hK.out _ _ (.inr S8) ?_
    clear hK K
    refine wpAnyT_one (i := 10) (by kernel_rfl) rfl (fun K hK => ?_)
    go_simp
    refine hK.out _ _ (.inr S8) ?_
    clear hK K
    refine wpAnyT_one (i := 11) (by kernel_rfl) rfl (fun K hK => ?_)
    go_simp
    refine hK.out _ _ (.inr S8) ?_
    clear hK K
    refine wpAnyT_one (i := 12) (by kernel_rfl) rfl (fun K hK => ?_)
    go_simp
    refine hK.out _ _ (.inl rfl) ?_
    clear hK K
    refine wpAnyT_done (by kernel_rfl) ?_ _
    go_wp2_with fail
    go_meet
    case rel =>
      have ho8' : w8.ownsRow w0.heap.size 100 23 (.slice (some ⟨g, 0, none⟩) (σ'.cs.length + 1) cap) (σ'.cs.length + 1) (σ'.cs.flatten ++ cv) := by rw [HCE.out]; exact ho8
      refine ⟨_, HS7.out.pushCmd HK8.out ho8' hg8 hor8 HCV2.out, ?_⟩
      refine ((HB7.out.keep HK8.out (by simp)).keep (kp_of_grown (S := σ'.vc.ownBlock.toList) hg8 (fun p hp => by rw [hp]; simp)) (fun hm => ?_)).keep (Kp.setCell (S := [b]) _ _ (by simp)) (by simpa using hne)
      exact far7.bk 4 (show σ'.vc.ownBlock = some cb by simpa using hm)
  case rest =>
  obtain ⟨v', s9, b9⟩ := hcut
  have q3 := b9.at_ 3 (.int .u8 x) (by rw [HCE.out]; rfl)
  rcases HE.out with ⟨hx, hk5⟩ | ⟨hx, hme, hk5⟩
  · have g1 : ((x : Int) == 123) = true := by rw [hx]; rfl
    go_wp2_with fail
    go_end0
    refine ⟨rfl, A, c, fs, σ', cv, v', HAV.out, HFS.out, ?_, ?_⟩
    · rw [← HS1.out, ← HRN.out]; exact HRR.out
    · rw [hk5]; exact s9
  · have g1 : ((x : Int) == 123) = false := by rw [beq_eq_false_iff_ne]; omega
    go_wp2_with fail
    refine (end_v s9.cur hme).mono ?_
    rintro r w10 ⟨rfl, h10, m10⟩
    go_wp2_with fail
    go_end0
    refine ⟨rfl, A, c, fs, σ', cv, v', HAV.out, HFS.out, ?_, ?_⟩
    · rw [← HS1.out, ← HRN.out]; exact HRR.out
    · rw [hk5]; exact s9.move m10 h10
theorem command_v {w0 w : World} {b : Nat} {src : ByteArray} {k k1 k3 k5 e f i x : Nat} {nt : Bool} {σ : Sst} {L : List Adr} {R : Sst → List Value → Sst → List Value → Prop} (hs : Sr w0 w b src k σ) (hA : AdrsOk src k k1 L)
    (hN : (nt = false ∧ saw src (blk src k1) 33 = false ∧ k3 = blk src k1) ∨ (nt = true ∧ saw src (blk src k1) 33 = true ∧ k3 = blk src (blk src k1 + 1)))
    (hk : k3 < src.size) (hx : (src[k3]).toNat = x) (ht : Instr.findNow (.int .u8) (.int .u8 x) (tabE 0 opsL) 0 = some (some (i, .func (.func f) #[] #[]))) (hbare : (x = 125 ∨ x = 58) → L = [] ∧ nt = false)
    (ho : OpOk w0 f b src (k3 + 1) e R) (hce : Enters f) (hR : ∀ σ cv σ' cv', R σ cv σ' cv' → cv'[3]? = cv[3]? ∧ σ'.cs.length = σ.cs.length) (hE : (x = 123 ∧ k5 = e) ∨ (x ≠ 123 ∧ mayEnd src (blk src e) = true ∧ k5 = blk src e)) (hn : σ.cs.length ≤ 2000) (hrg : σ.ranges ≤ 2000) (hsl : Small σ 2000) :
    Calls Tryz.prog 80 #[.pointer (some ⟨b, 0, none⟩)] w fun r w' => r = .returned (.tuple #[]) ∧ CmdRead w0 w' b src k5 σ L nt x R :=
  command_p hs hA hN hk hx ht hbare (fun _ _ => ho.at_ _) hce hR hE hn hrg hsl
end Go.Proofs.YtonnimbcekhbgaaGreatDoor
