/- What is written to a file. -/
import Derived.Test.YtonnimbcekhbgaaGreatDoorFJ
namespace Go.Proofs.YtonnimbcekhbgaaGreatDoor
open Go.RowKit

section
variable {w0 w w1 w' : World} {mb sb db lo hi : Nat} {s s' : Mst} {σ : Sst}

theorem maB_fl (mb db : Nat) (r : Mrw) (i : Nat) (v v' : Value) (fb : List (List UInt8)) (hv : r.fl[i]? = some v) : maB mb db { r with fl := r.fl.set i v', fb := fb } = fun j => if j = i + 6 then v'.ownBlock else maB mb db r j := by
  funext j
  have hi := (List.getElem?_eq_some_iff.1 hv).1
  rcases j with _ | _ | _ | _ | _ | _ | j <;> try (simp [maB]; done)
  show ((r.fl.set i v')[j]?).bind Value.ownBlock = if j + 6 = i + 6 then v'.ownBlock else (r.fl[j]?).bind Value.ownBlock
  by_cases e : j = i
  · subst e; simp [hi]
  · rw [List.getElem?_set_ne (Ne.symm e), if_neg (by omega)]

/-- A text is written. -/
def Pst.write (i : Nat) (t : ByteArray) (p : Pst) : Pst := { p with count := p.count + t.size + 1, fb := p.fb.set i ((p.fb[i]?.getD []) ++ t.data.toList ++ [10]) }

theorem Mac.wrote {v v' : Value} {text : ByteArray} {i g c : Nat} {bs : List UInt8} (h : Mac w0 w mb sb db s) (hv : s.r.fl[i]? = some v) (hb : s.r.fb[i]? = some bs) (hg : s.r.vf = .slice (some ⟨g, 0, none⟩) s.r.fl.length c) (A : Added mb s.count v w0.heap.size bs text w w1 v') :
    Mac w0 (w1.setCell ⟨g, i, none⟩ v') mb sb db { s with count := s.count + text.size + 1, r := { s.r with fl := s.r.fl.set i v', fb := s.r.fb.set i (bs ++ text.data.toList ++ [10]) } } ∧
      Gr mb db w s.r (w1.setCell ⟨g, i, none⟩ v') { s.r with fl := s.r.fl.set i v', fb := s.r.fb.set i (bs ++ text.data.toList ++ [10]) } := by
  have mlt := h.b.lt
  have hi := (List.getElem?_eq_some_iff.1 hv).1
  have hib := (List.getElem?_eq_some_iff.1 hb).1
  have m6 : maB mb db s.r (i + 6) = v.ownBlock := by show (s.r.fl[i]?).bind Value.ownBlock = _; rw [hv]; rfl
  have m3 : maB mb db s.r 3 = some g := by show s.r.vf.ownBlock = _; rw [hg]; rfl
  have gm : g ≠ mb := fun e => by have := h.r.bk.ne 3 0 g m3 (by rw [e]; rfl); omega
  have gv : v.ownBlock ≠ some g := fun e => by have := h.r.bk.ne (i + 6) 3 g (m6.trans e) m3; omega
  have gw := h.r.bk.hi 3 g m3
  have hS : ∀ x ∈ mb :: g :: v.ownBlock.toList, ∃ j, maB mb db s.r j = some x := fun x hx => by
    rcases List.mem_cons.1 hx with q | hx
    · exact ⟨0, by rw [q]; rfl⟩
    · rcases List.mem_cons.1 hx with q | q
      · exact ⟨3, by rw [q]; exact m3⟩
      · exact ⟨i + 6, by rw [m6]; simpa using q⟩
  have ks : Kp [g] w1 (w1.setCell ⟨g, i, none⟩ v') := Kp.setCell _ _ (by simp)
  have kk : Kp (mb :: g :: v.ownBlock.toList) w (w1.setCell ⟨g, i, none⟩ v') := (A.kp.mono (fun x hx => by simp at hx ⊢; rcases hx with q | q <;> simp [q])).trans (ks.mono (by simp))
  have hh : ∀ j p, j ≠ 0 → j ≠ 3 → j ≠ i + 6 → maB mb db s.r j = some p → (w1.setCell ⟨g, i, none⟩ v').heap[p]? = w.heap[p]? := fun j p h0 h3 h6 hp => kk.block p (h.r.bk.hi j p hp) (fun e => by
    rcases List.mem_cons.1 e with q | e
    · exact h0 (h.r.bk.ne j 0 p hp (by rw [q]; rfl))
    · rcases List.mem_cons.1 e with q | q
      · exact h3 (h.r.bk.ne j 3 p hp (by rw [q]; exact m3))
      · exact h6 (h.r.bk.ne j (i + 6) p hp (by rw [m6]; simpa using q)))
  have vne : v'.ownBlock ≠ some g := fun e => by
    rcases A.at_ g e with q | q
    · exact gv q
    · omega
  have vnm : v'.ownBlock ≠ some mb := fun e => by
    rcases A.at_ mb e with q | q
    · have := h.r.bk.ne (i + 6) 0 mb (m6.trans q) rfl; omega
    · omega
  have B1 : Bl w1 mb ((macV sb db s).set 7 (.int .i64 ((s.count + text.size + 1 : Nat) : Int))) := by
    refine ⟨Nat.lt_of_lt_of_le mlt A.kp.size, fun j u hu => ?_, fun j => (A.free j).trans (h.b.free j)⟩
    by_cases e : j = 7
    · subst e
      rw [List.getElem?_set_self (by show 7 < 20; omega)] at hu
      rw [A.c7, hu]
    · rw [List.getElem?_set_ne (Ne.symm e)] at hu
      exact (A.cell j e).trans (h.b.at_ j u hu)
  have lo0 := h.r.kp.size
  have bk' : Bk.ok w0.heap.size (w1.setCell ⟨g, i, none⟩ v').heap.size (maB mb db { s.r with fl := s.r.fl.set i v', fb := s.r.fb.set i (bs ++ text.data.toList ++ [10]) }) := by
    rw [maB_fl mb db s.r i v v' _ hv]
    cases hv' : v'.ownBlock with
    | none =>
      refine ⟨fun j p hp => ?_, fun j p hp => ?_, fun j k p hj hk => ?_⟩
      · split at hp
        · cases hp
        · exact h.r.bk.lo j p hp
      · split at hp
        · cases hp
        · exact Nat.lt_of_lt_of_le (h.r.bk.hi j p hp) kk.size
      · split at hj <;> split at hk
        · omega
        · cases hj
        · cases hk
        · exact h.r.bk.ne j k p hj hk
    | some q =>
      refine h.r.bk.upd (i + 6) q kk.size lo0 ?_
      rcases A.at_ q hv' with r | r
      · exact .inl (m6.trans r)
      · exact .inr ⟨r, Nat.lt_of_lt_of_le (own_lt A.row hv').2 ks.size⟩
  have row3 : (w1.setCell ⟨g, i, none⟩ v').ownsRow w0.heap.size 34 1 s.r.vf s.r.fl.length (s.r.fl.set i v') := by
    have hb1 : w1.heap[g]? = w.heap[g]? := A.kp.block g gw (fun e => by
      rcases List.mem_cons.1 e with q | q
      · exact gm q
      · exact gv (by simpa using q))
    have o1 : w1.ownsRow w0.heap.size 34 1 s.r.vf s.r.fl.length s.r.fl := own_block h.r.o3 (fun p hp => by
      rw [hg] at hp
      have : g = p := by simpa [Value.ownBlock] using hp
      subst this
      exact hb1)
    rw [hg] at o1 ⊢
    refine (o1.stored i v').1
  refine ⟨⟨B1.keep ks (by simpa using Ne.symm gm), ⟨?_, own_block h.r.o2 (fun p hp => hh 2 p (by omega) (by omega) (by omega) hp), ?_, fun j u hu => ?_, own_block h.r.o4 (fun p hp => hh 4 p (by omega) (by omega) (by omega) hp), own_block h.r.o5 (fun p hp => hh 5 p (by omega) (by omega) (by omega) hp), (hh 1 _ (by omega) (by omega) (by omega) rfl).trans h.r.md, bk', by show (s.r.fb.set i _).length = (s.r.fl.set i _).length; rw [List.length_set, List.length_set]; exact h.r.fll⟩⟩, ⟨kk.size, fun j p hp => ?_, fun p hp hn => kk.block p hp (fun e => by obtain ⟨j, hj⟩ := hS p e; exact hn j hj)⟩⟩
  · refine ⟨kk.os.trans h.r.kp.os, kk.tape.trans h.r.kp.tape, kk.output.trans h.r.kp.output, Nat.le_trans lo0 kk.size, fun j hj _ => (kk.block j (Nat.lt_of_lt_of_le hj lo0) (fun e => ?_)).trans (h.r.kp.block j hj (by simp))⟩
    obtain ⟨x, hx⟩ := hS j e
    have := h.r.bk.lo x j hx
    omega
  · show World.ownsRow _ _ _ 1 s.r.vf (s.r.fl.set i v').length (s.r.fl.set i v')
    rw [List.length_set]
    exact row3
  · replace hu : (s.r.fl.set i v')[j]? = some u := hu
    by_cases e : j = i
    · subst e
      rw [List.getElem?_set_self hi] at hu
      injection hu with hu
      subst hu
      refine ⟨bs ++ text.data.toList ++ [10], List.getElem?_set_self hib, ?_⟩
      have hl : (bs ++ text.data.toList ++ [10]).length = bs.length + text.size + 1 := by rw [List.length_append, List.length_append]; rfl
      rw [hl]
      exact own_block A.row (fun p hp => ks.block p (own_lt A.row hp).2 (fun e => vne (by simp at e; rw [← e]; exact hp)))
    · rw [List.getElem?_set_ne (Ne.symm e)] at hu
      obtain ⟨bs', h1, h2⟩ := h.r.ofl j u hu
      exact ⟨bs', by show (s.r.fb.set i _)[j]? = _; rw [List.getElem?_set_ne (Ne.symm e)]; exact h1, own_block h2 (fun p hp => hh (j + 6) p (by omega) (by omega) (by omega) (show (s.r.fl[j]?).bind Value.ownBlock = some p by rw [hu]; exact hp))⟩
  · rw [maB_fl mb db s.r i v v' _ hv] at hp
    replace hp : (if j = i + 6 then v'.ownBlock else maB mb db s.r j) = some p := hp
    split at hp
    · rcases A.at_ p hp with q | q
      · exact .inl ⟨i + 6, m6.trans q⟩
      · exact .inr q
    · exact .inl ⟨j, hp⟩

set_option maxRecDepth 100000 in
set_option maxHeartbeats 4000000 in
theorem write_v {text : ByteArray} {i : Nat} {v : Value} {bs : List UInt8} (h : Mac w0 w mb sb db s) (hv : s.r.fl[i]? = some v) (hb : s.r.fb[i]? = some bs) (hc : s.count + text.size + 1 ≤ 200000) (hx : bs.length ≤ s.count) :
    Calls Tryz.prog 86 #[.pointer (some ⟨mb, 5, none⟩), .int .i64 i, .string text] w fun r w' => r = .returned (.tuple #[]) ∧ Goes w0 mb sb db w s w' (s.p.write i text) := by
  have hil := (List.getElem?_eq_some_iff.1 hv).1
  obtain ⟨g, c, hvf, hcell⟩ : ∃ g c, s.r.vf = .slice (some ⟨g, 0, none⟩) s.r.fl.length c ∧ w.cell? ⟨g, i, none⟩ = some v := by
    rcases h.r.o3.2 with ⟨_, q⟩ | ⟨g, cap, cur, q1, _⟩
    · omega
    · refine ⟨g, cap, q1, ?_⟩
      have o := h.r.o3
      rw [q1] at o
      rw [o.cellAt i (by omega), hv]
  have m6 : maB mb db s.r (i + 6) = v.ownBlock := by show (s.r.fl[i]?).bind Value.ownBlock = _; rw [hv]; rfl
  have m3 : maB mb db s.r 3 = some g := by show s.r.vf.ownBlock = _; rw [hvf]; rfl
  have gm : g ≠ mb := fun e => by have := h.r.bk.ne 3 0 g m3 (by rw [e]; rfl); omega
  have gv : v.ownBlock ≠ some g := fun e => by have := h.r.bk.ne (i + 6) 3 g (m6.trans e) m3; omega
  have vm : v.ownBlock ≠ some mb := fun e => by have := h.r.bk.ne (i + 6) 0 mb (m6.trans e) rfl; omega
  have gw := h.r.bk.hi 3 g m3
  have hfree : w.frozen? ⟨g, i, none⟩ = false := (by
    have o := h.r.o3
    rw [hvf] at o
    exact o.frozenAt i)
  have hown : ∃ bs', s.r.fb[i]? = some bs' ∧ w.ownsRow w0.heap.size 5 1 v bs'.length (Lib.byteCells bs') := h.r.ofl i v hv
  obtain ⟨bs', hb', hrow⟩ := hown
  obtain rfl : bs' = bs := by rw [hb] at hb'; exact (Option.some.inj hb').symm
  have c6 := h.b.at_ 6 _ rfl
  rw [hvf] at c6
  have md := h.keep (Kp.drew [] w)
  have H := hid (add_v (w := w.drew) (text := text) (md.b.at_ 7 _ rfl) (md.b.free 7) (own_block hrow (fun p hp => (Kp.drew [] w).block p (own_lt hrow hp).2 (by simp))) vm h.r.kp.size hc hx)
  have HW : Hid (∀ w1 v', Added mb s.count v w0.heap.size bs' text w.drew w1 v' → (fun w' : World => w'.cell? ⟨mb, 6, none⟩ = some (.slice (some ⟨g, 0, none⟩) s.r.fl.length c) ∧ w'.cell? ⟨g, i, none⟩ = some v) w1 ∧ w1.frozen? ⟨g, i, none⟩ = false) := hid (fun w1 v' A => by
    have hb1 : w1.heap[g]? = w.heap[g]? := A.kp.block g gw (fun e => by
      rcases List.mem_cons.1 e with q | q
      · exact gm q
      · exact gv (by simpa using q))
    exact ⟨⟨(A.cell 6 (by omega)).trans c6, (World.cell?_of_block hb1).trans hcell⟩, (World.frozen?_of_block hb1).trans hfree⟩)
  have FIN : Hid (∀ w1 v', Added mb s.count v w0.heap.size bs' text w.drew w1 v' → Goes w0 mb sb db w s (w1.setCell ⟨g, i, none⟩ v') (s.p.write i text)) := hid (fun w1 v' A => by
    obtain ⟨m1, g1⟩ := md.wrote hv hb hvf A
    refine ⟨_, ?_, m1, (Gr.of_kp (r := s.r) (Kp.drew [] w) (fun _ e => by cases e)).trans g1⟩
    have : s.p.fb[i]?.getD [] = bs' := by show s.r.fb[i]?.getD [] = _; rw [hb]; rfl
    unfold Pst.write
    rw [this]
    rfl)
  have ONE : Hid (∀ w1 v', Added mb s.count v w0.heap.size bs' text w.drew w1 v' → ∃ A q c', v' = .slice A q c') := hid (fun w1 v' A => by
    obtain ⟨A', c', ev, _, _⟩ := own_form A.row
    exact ⟨A', _, c', ev⟩)
  have hS : (fun w' : World => w'.cell? ⟨mb, 6, none⟩ = some (.slice (some ⟨g, 0, none⟩) s.r.fl.length c) ∧ w'.cell? ⟨g, i, none⟩ = some v) w.drew := ⟨c6, hcell⟩
  clear hfree hrow md h c6 hcell hvf hv hb m6 m3
  obtain ⟨n, hn⟩ : ∃ n, n = s.r.fl.length := ⟨_, rfl⟩
  rw [← hn] at hS HW hil
  clear hn
  go_enter Tryz.func86, Tryz.ntmps86
  go_upto_region 0 with fail
  refine wp_region_T (fun w' : World => w'.cell? ⟨mb, 6, none⟩ = some (.slice (some ⟨g, 0, none⟩) n c) ∧ w'.cell? ⟨g, i, none⟩ = some v) 16 (by kernel_rfl) ?_
  refine wpAnyT_take (i := 0) (v := ?v0) rfl (by kernel_rfl) (by kernel_rfl) (by kernel_rfl) (by kernel_rfl) (fun _ _ _ h => h) (Or.inl ⟨by rfl, ?y0⟩) hS ?_
  case y0 => (intro w hSw; (try dsimp only at hSw); go_simp; (try with_reducible rfl))
  simp only [List.getElem_toArray, List.getElem_cons_zero, Act.put, List.setIfInBounds_toArray, List.set_cons_zero, List.set_cons_succ]
  refine wpAnyT_take (i := 1) (v := ?v1) rfl (by kernel_rfl) (by kernel_rfl) (by kernel_rfl) (by kernel_rfl) (fun _ _ _ h => h) (Or.inl ⟨by rfl, ?y1⟩) hS ?_
  case y1 => (intro w hSw; (try dsimp only at hSw); go_simp; (try with_reducible rfl))
  simp only [List.getElem_toArray, List.getElem_cons_succ, List.getElem_cons_zero, Act.put, List.setIfInBounds_toArray, List.set_cons_zero, List.set_cons_succ]
  refine wpAnyT_take (i := 2) (v := ?v2) rfl (by kernel_rfl) (by kernel_rfl) (by kernel_rfl) (by kernel_rfl) (fun _ _ _ h => h) (Or.inl ⟨by rfl, ?y2⟩) hS ?_
  case y2 => (intro w hSw; (try dsimp only at hSw); go_simp; (try with_reducible rfl))
  simp only [List.getElem_toArray, List.getElem_cons_succ, List.getElem_cons_zero, Act.put, List.setIfInBounds_toArray, List.set_cons_zero, List.set_cons_succ]
  refine wpAnyT_take (i := 3) (v := ?v3) rfl (by kernel_rfl) (by kernel_rfl) (by kernel_rfl) (by kernel_rfl) (fun _ _ _ h => h) (Or.inl ⟨by rfl, ?y3⟩) hS ?_
  case y3 => (intro w hSw; (try dsimp only at hSw); go_simp; (try with_reducible rfl))
  simp only [List.getElem_toArray, List.getElem_cons_succ, List.getElem_cons_zero, Act.put, List.setIfInBounds_toArray, List.set_cons_zero, List.set_cons_succ]
  refine wpAnyT_take (i := 4) (v := ?v4) rfl (by kernel_rfl) (by kernel_rfl) (by kernel_rfl) (by kernel_rfl) (fun _ _ _ h => h) (Or.inl ⟨by rfl, ?y4⟩) hS ?_
  case y4 => (intro w hSw; (try dsimp only at hSw); go_simp; (try with_reducible rfl))
  simp only [List.getElem_toArray, List.getElem_cons_succ, List.getElem_cons_zero, Act.put, List.setIfInBounds_toArray, List.set_cons_zero, List.set_cons_succ]
  refine wpAnyT_take (i := 5) (v := ?v5) rfl (by kernel_rfl) (by kernel_rfl) (by kernel_rfl) (by kernel_rfl) (fun _ _ _ h => h) (Or.inl ⟨by rfl, ?y5⟩) hS ?_
  case y5 => (intro w hSw; (try dsimp only at hSw); go_simp; (try with_reducible rfl))
  simp only [List.getElem_toArray, List.getElem_cons_succ, List.getElem_cons_zero, Act.put, List.setIfInBounds_toArray, List.set_cons_zero, List.set_cons_succ]
  refine wpAnyT_take (i := 6) (v := ?v6) rfl (by kernel_rfl) (by kernel_rfl) (by kernel_rfl) (by kernel_rfl) (fun _ _ _ h => h) (Or.inl ⟨by rfl, ?y6⟩) hS ?_
  case y6 => (intro w hSw; (try dsimp only at hSw); go_simp; (try with_reducible rfl))
  simp only [List.getElem_toArray, List.getElem_cons_succ, List.getElem_cons_zero, Act.put, List.setIfInBounds_toArray, List.set_cons_zero, List.set_cons_succ]
  refine wpAnyT_take (i := 7) (v := ?v7) rfl (by kernel_rfl) (by kernel_rfl) (by kernel_rfl) (by kernel_rfl) (fun _ _ _ h => h) (Or.inl ⟨by rfl, ?y7⟩) hS ?_
  case y7 => (intro w hSw; (try dsimp only at hSw); go_simp; (try with_reducible rfl))
  simp only [List.getElem_toArray, List.getElem_cons_succ, List.getElem_cons_zero, Act.put, List.setIfInBounds_toArray, List.set_cons_zero, List.set_cons_succ]
  refine wpAnyT_take (i := 8) (v := ?v8) rfl (by kernel_rfl) (by kernel_rfl) (by kernel_rfl) (by kernel_rfl) (fun _ _ _ h => h) (Or.inl ⟨by rfl, ?y8⟩) hS ?_
  case y8 => (intro w hSw; (try dsimp only at hSw); go_simp; (try with_reducible rfl))
  simp only [List.getElem_toArray, List.getElem_cons_succ, List.getElem_cons_zero, Act.put, List.setIfInBounds_toArray, List.set_cons_zero, List.set_cons_succ]
  refine wpAnyT_take (i := 9) (v := ?v9) rfl (by kernel_rfl) (by kernel_rfl) (by kernel_rfl) (by kernel_rfl) (fun _ _ _ h => h) (Or.inl ⟨by rfl, ?y9⟩) hS ?_
  case y9 => (intro w hSw; (try dsimp only at hSw); go_simp; (try with_reducible rfl))
  simp only [List.getElem_toArray, List.getElem_cons_succ, List.getElem_cons_zero, Act.put, List.setIfInBounds_toArray, List.set_cons_zero, List.set_cons_succ]
  refine wpAnyT_take (i := 10) (v := ?v10) rfl (by kernel_rfl) (by kernel_rfl) (by kernel_rfl) (by kernel_rfl) (fun _ _ _ h => h) (Or.inl ⟨by rfl, ?y10⟩) hS ?_
  case y10 => (intro w hSw; (try dsimp only at hSw); go_simp; (try with_reducible rfl))
  simp only [List.getElem_toArray, List.getElem_cons_succ, List.getElem_cons_zero, Act.put, List.setIfInBounds_toArray, List.set_cons_zero, List.set_cons_succ]
  refine wpAnyT_take (i := 11) (v := ?v11) rfl (by kernel_rfl) (by kernel_rfl) (by kernel_rfl) (by kernel_rfl) (fun _ _ _ h => h) (Or.inl ⟨by rfl, ?y11⟩) hS ?_
  case y11 => (intro w hSw; (try dsimp only at hSw); go_simp; (try with_reducible rfl))
  simp only [List.getElem_toArray, List.getElem_cons_succ, List.getElem_cons_zero, Act.put, List.setIfInBounds_toArray, List.set_cons_zero, List.set_cons_succ]
  refine wpAnyT_take (i := 12) (v := ?v12) rfl (by kernel_rfl) (by kernel_rfl) (by kernel_rfl) (by kernel_rfl) (fun _ _ _ h => h) (Or.inl ⟨by rfl, ?y12⟩) hS ?_
  case y12 => (intro w hSw; (try dsimp only at hSw); go_simp; (try with_reducible rfl))
  simp only [List.getElem_toArray, List.getElem_cons_succ, List.getElem_cons_zero, Act.put, List.setIfInBounds_toArray, List.set_cons_zero, List.set_cons_succ]
  refine wpAnyT_take (i := 13) (v := ?v13) rfl (by kernel_rfl) (by kernel_rfl) (by kernel_rfl) (by kernel_rfl) (fun _ _ _ h => h) (Or.inl ⟨by rfl, ?y13⟩) hS ?_
  case y13 => (intro w hSw; (try dsimp only at hSw); go_simp; (try with_reducible rfl))
  simp only [List.getElem_toArray, List.getElem_cons_succ, List.getElem_cons_zero, Act.put, List.setIfInBounds_toArray, List.set_cons_zero, List.set_cons_succ]
  refine wpAnyT_one (i := 14) (by kernel_rfl) rfl (fun K hK => ?_)
  go_simp
  refine H.out.mono ?_
  rintro r w1 ⟨v', rfl, A⟩
  obtain ⟨hS1, hf1⟩ := HW.out w1 v' A
  obtain ⟨A', q', c', ev⟩ := ONE.out w1 v' A
  have HA := hid A
  clear A
  subst ev
  dsimp only
  refine hK.out _ _ (.inr hS1) ?_
  clear hK K
  refine wpAnyT_one (i := 15) (by kernel_rfl) rfl (fun K hK => ?_)
  go_simp
  refine hK.out _ _ (.inr hS1) ?_
  clear hK K
  refine wpAnyT_one (i := 16) (by kernel_rfl) rfl (fun K hK => ?_)
  have hc1 := hS1.2
  go_simp
  refine hK.out _ _ (.inl rfl) ?_
  clear hK K
  refine wpAnyT_done (by kernel_rfl) ?_ _
  go_wp2_with fail
  go_end0
  exact ⟨rfl, FIN.out _ _ HA.out⟩

set_option maxRecDepth 100000 in
set_option maxHeartbeats 1000000 in
theorem writeSpace_v {ca co i : Nat} {v : Value} {bs : List UInt8} (h : Mac w0 w mb sb db s) (hci : w.cell? ⟨ca, co + 7, none⟩ = some (.int .i64 i)) (hv : s.r.fl[i]? = some v) (hb : s.r.fb[i]? = some bs) (hc : s.count + s.space.size + 1 ≤ 200000) (hx : bs.length ≤ s.count) :
    Calls Tryz.prog 58 #[.pointer (some ⟨mb, 0, none⟩), .pointer (some ⟨ca, co, none⟩)] w fun r w' => r = .returned (.tuple #[]) ∧ Goes w0 mb sb db w s w' (s.p.write i s.space) := by
  have c9 := h.b.at_ 9 _ rfl
  have HT := hid (write_v (h.keep (Kp.drew [] w)) hv hb hc hx)
  go_enter Tryz.func58, Tryz.ntmps58
  go_wp2_with fail
  go_region_with (go_at_call 86; refine HT.out.mono ?_; rintro r w1 ⟨rfl, g1⟩)
  all_goals
    go_wp2_with fail
    go_end0
    exact ⟨rfl, g1.pre (Kp.drew [] w)⟩

end
end Go.Proofs.YtonnimbcekhbgaaGreatDoor
