/- What the claim needs of: LB RAToRC. -/
import Derived.Test.YtonnimbcekhbgaaGreatDoorX20
import Derived.Test.YtonnimbcekhbgaaGreatDoorX21
import Derived.Test.YtonnimbcekhbgaaGreatDoorX33
import Derived.Test.YtonnimbcekhbgaaGreatDoorX28

/- LB. -/
namespace Go.Proofs.YtonnimbcekhbgaaGreatDoor
open Go.RowKit

def specialB : ByteArray := ⟨#[92, 124, 42, 43, 63, 123, 125, 40, 41, 46, 94, 36, 91, 93]⟩
def isSpec (c : UInt8) : Bool := specialB.data.toList.contains c
/-- A byte as it is written in a pattern. -/
def quote1 (c : UInt8) : List UInt8 := if c = 10 then [92, 110] else if isSpec c = true then [92, c] else [c]
end Go.Proofs.YtonnimbcekhbgaaGreatDoor

/- RAToRC. -/
namespace Go.Proofs.YtonnimbcekhbgaaGreatDoor
open Go.RowKit

set_option maxHeartbeats 800000 in
theorem escape_n {b : Nat} {src : ByteArray} {k g : Nat} (behind : ByteArray) {w : World} (hr : Rd w b src k g) (h : saw src k 110 = true) :
    Calls Tryz.prog 182 #[.pointer (some ⟨b, 0, none⟩), .string behind] w fun e w' => e = .returned (.int .u8 10) ∧ Rd w' b src (k + 1) g ∧ Kp [b] w w' := by
  go_enter Tryz.func182, Tryz.ntmps182
  go_wp2_with fail
  refine (take_yes 110 hr h).mono ?_
  rintro e w1 ⟨rfl, r1, k1⟩
  go_wp2_with fail
  go_ret
  exact ⟨rfl, r1, k1⟩

set_option maxHeartbeats 800000 in
theorem escape_c {b : Nat} {src : ByteArray} {k g : Nat} (behind : ByteArray) {w : World} (hr : Rd w b src k g) (hk : k < src.size) (h1 : saw src k 110 = false) (h2 : saw src k 116 = false)
    {v : Int} (hix : Lib.indexByte behind.data.toList src[k] = v) (hv : 0 ≤ v) :
    Calls Tryz.prog 182 #[.pointer (some ⟨b, 0, none⟩), .string behind] w fun e w' => e = .returned (.int .u8 (src[k]).toNat) ∧ Rd w' b src (k + 1) g ∧ Kp [b] w w' := by
  go_enter Tryz.func182, Tryz.ntmps182
  go_wp2_with fail
  refine (take_no 110 hr h1).mono ?_
  rintro e w1 ⟨rfl, r1, k1⟩
  go_wp2_with fail
  refine (take_no 116 r1 h2).mono ?_
  rintro e w2 ⟨rfl, r2, k2⟩
  have c0 := r2.c0
  have c1 := r2.c1
  have f1 := r2.free 1
  have hsm := r2.small
  have he : ((k : Int) == (src.size : Int)) = false := by simp; omega
  have hix' : Lib.indexByte behind.data.toList ((src[k].toNat : Int)).toNat.toUInt8 = v := by simpa using hix
  have hv' : ¬ v < 0 := by omega
  go_wp2_with fail
  go_quiet (first | (go_at_call 79; exact ended_q r2 _) | (go_at_call 129; exact index_q _ _ hix' _ _))
  go_wp2
  go_quiet (fail)
  go_wp2
  go_ret
  exact ⟨rfl, ((r2.drewN _).step hk).drewN _, k1.trans (k2.trans ((Kp.drewN _ _ _).trans ((Kp.setCell _ _ (by simp)).trans (Kp.drewN _ _ _))))⟩

/-- The byte at place k can be read, up to place l: it is x. -/
def ByteOk (b : Nat) (src : ByteArray) (barred behind : ByteArray) (k l g x : Nat) : Prop :=
  ∀ w : World, Rd w b src k g → Calls Tryz.prog 177 #[.pointer (some ⟨b, 0, none⟩), .string barred, .string behind] w fun e w' => e = .returned (.int .u8 x) ∧ Rd w' b src l g ∧ Kp [b] w w'

theorem byte_plain {b : Nat} {src : ByteArray} {k g : Nat} {barred behind : ByteArray} (hk : k < src.size) (h92 : saw src k 92 = false) (h10 : saw src k 10 = false) (hbar : Lib.indexByte barred.data.toList src[k] = -1) :
    ByteOk b src barred behind k (k + 1) g (src[k]).toNat := fun _ hr => byteOf_plain barred behind hr hk h92 h10 hbar

set_option maxHeartbeats 800000 in
theorem byte_n {b : Nat} {src : ByteArray} {k g : Nat} {barred behind : ByteArray} (h92 : saw src k 92 = true) (h : saw src (k + 1) 110 = true) : ByteOk b src barred behind k (k + 1 + 1) g 10 := by
  intro w hr
  go_enter Tryz.func177, Tryz.ntmps177
  go_wp2_with fail
  refine (take_yes 92 hr h92).mono ?_
  rintro e w1 ⟨rfl, r1, k1⟩
  go_wp2_with fail
  refine (escape_n behind r1 h).mono ?_
  rintro e w2 ⟨rfl, r2, k2⟩
  go_wp2_with fail
  go_ret
  exact ⟨rfl, r2, k1.trans k2⟩

set_option maxHeartbeats 800000 in
theorem byte_c {b : Nat} {src : ByteArray} {k g : Nat} {barred behind : ByteArray} (h92 : saw src k 92 = true) (hk : k + 1 < src.size) (h1 : saw src (k + 1) 110 = false) (h2 : saw src (k + 1) 116 = false)
    {v : Int} (hix : Lib.indexByte behind.data.toList src[k + 1] = v) (hv : 0 ≤ v) : ByteOk b src barred behind k (k + 1 + 1) g (src[k + 1]).toNat := by
  intro w hr
  go_enter Tryz.func177, Tryz.ntmps177
  go_wp2_with fail
  refine (take_yes 92 hr h92).mono ?_
  rintro e w1 ⟨rfl, r1, k1⟩
  go_wp2_with fail
  refine (escape_c behind r1 hk h1 h2 hix hv).mono ?_
  rintro e w2 ⟨rfl, r2, k2⟩
  go_wp2_with fail
  go_ret
  exact ⟨rfl, r2, k1.trans k2⟩

/-- What means something in a pattern, and what may stand behind a backslash. -/
def special : ByteArray := ⟨#[92, 124, 42, 43, 63, 123, 125, 40, 41, 46, 94, 36, 91, 93]⟩
def escaped : ByteArray := ⟨#[92, 124, 42, 43, 63, 123, 125, 40, 41, 46, 94, 36, 91, 93, 47]⟩

abbrev edgeV (k : Int) : Value := .iface 217 (.agg #[.int .i64 k])

set_option maxRecDepth 100000 in
set_option maxHeartbeats 800000 in
theorem atom_byte {b : Nat} {src : ByteArray} {k l g x : Nat} {w : World} (hr : Rd w b src k g) (hx : x < 256) (h40 : saw src k 40 = false) (h46 : saw src k 46 = false) (h91 : saw src k 91 = false) (hb : ByteOk b src special escaped k l g x) :
    Calls Tryz.prog 172 #[.pointer (some ⟨b, 0, none⟩)] w fun e w' => e = .returned (oneV (span noBytes x (x + 1))) ∧ Rd w' b src l g ∧ Kp [b] w w' := by
  go_enter Tryz.func172, Tryz.ntmps172
  go_wp2_with fail
  refine (sees_any 40 hr).mono ?_
  rw [h40]
  rintro e w1 ⟨rfl, n, rfl⟩
  go_wp2_with fail
  refine (take_no 46 (hr.drewN n) h46).mono ?_
  rintro e w2 ⟨rfl, r2, k2⟩
  go_wp2_with fail
  refine (take_no 91 r2 h91).mono ?_
  rintro e w3 ⟨rfl, r3, k3⟩
  go_wp2_with fail
  refine (hb _ r3).mono ?_
  rintro e w4 ⟨rfl, r4, k4⟩
  have q4 := Kp.alloc [b] w4 zero4
  have r5 := r4.keep (Kp.alloc [] w4 zero4) (by simp)
  have s5 := St_new w4
  have hz5 : (w4.alloc zero4).heap.size = w4.heap.size + 1 := by simp
  have hbl := r4.lt
  go_wp2_with fail
  refine (add_any w4.heap.size noBytes x x hx hx (Nat.le_refl _) _ s5).mono ?_
  rintro e w6 ⟨rfl, s6, k6⟩
  have a0 := s6.cell 0 (by omega)
  have a1 := s6.cell 1 (by omega)
  have a2 := s6.cell 2 (by omega)
  have a3 := s6.cell 3 (by omega)
  have r6 := r5.keep k6 (by simp; omega)
  have k6' : Kp [b] w4 w6 := by
    have := Kp.own (x := w4.heap.size) (S := [b]) ((q4.mono (by simp)).trans (k6.mono (T := [w4.heap.size, b]) (by simp))) (Nat.le_refl _)
    exact this
  clear s5 s6 r5
  go_wp2_with fail
  go_ret
  exact ⟨rfl, r6, (Kp.drewN _ _ n).trans (k2.trans (k3.trans (k4.trans k6')))⟩

/-- A piece that is a byte. -/
theorem piece_byte {b : Nat} {src : ByteArray} {k l g x : Nat} (hx : x < 256) (h94 : saw src k 94 = false) (h36 : saw src k 36 = false) (h40 : saw src k 40 = false) (h46 : saw src k 46 = false) (h91 : saw src k 91 = false) (hb : ByteOk b src special escaped k l g x)
    (h1 : saw src l 42 = false) (h2 : saw src l 43 = false) (h3 : saw src l 63 = false) (h4 : saw src l 123 = false) : PieceOk b src k l g (oneV (span noBytes x (x + 1))) := by
  intro w hr _
  go_enter Tryz.func169, Tryz.ntmps169
  go_wp2_with fail
  refine (take_no 94 hr h94).mono ?_
  rintro e w1 ⟨rfl, r1, k1⟩
  go_wp2_with fail
  refine (take_no 36 r1 h36).mono ?_
  rintro e w2 ⟨rfl, r2, k2⟩
  go_wp2_with fail
  refine (atom_byte r2 hx h40 h46 h91 hb).mono ?_
  rintro e w3 ⟨rfl, r3, k3⟩
  go_wp2_with fail
  refine (repeated_no _ r3 h1 h2 h3 h4).mono ?_
  rintro e w4 ⟨rfl, r4, k4⟩
  go_wp2_with fail
  go_ret
  exact ⟨rfl, r4, k1.trans (k2.trans (k3.trans k4))⟩

/-- The pieces from place k to the end. -/
def RowOk (b : Nat) (src : ByteArray) (g : Nat) : Nat → List Value → Prop
  | k, [] => k = src.size
  | k, v :: vs => k < src.size ∧ saw src k 124 = false ∧ saw src k 41 = false ∧ (∃ tv xv, v = .iface tv xv) ∧ ∃ l, k < l ∧ PieceOk b src k l g v ∧ RowOk b src g l vs
end Go.Proofs.YtonnimbcekhbgaaGreatDoor

/- A row of pieces, the one branch of a pattern, and the whole: contracts. -/
namespace Go.Proofs.YtonnimbcekhbgaaGreatDoor
open Go.RowKit

set_option maxRecDepth 100000 in
set_option maxHeartbeats 1000000 in
theorem branch_row {b : Nat} {src : ByteArray} {k g : Nat} {vs : List Value} {w : World} (hr : Rd w b src k g) (hw : Nm w) (hb0 : b ≠ 0) (hp : RowOk b src g k vs) (hlen : vs.length ≤ 1000) :
    Calls Tryz.prog 164 #[.pointer (some ⟨b, 0, none⟩)] w fun e w' => ∃ v, e = .returned (.iface 211 v) ∧ w'.ownsRow w.heap.size 173 1 v vs.length vs ∧ Rd w' b src src.size g ∧ Kp [b] w w' := by
  have HB : Hid (0 ∉ [b]) := hid (by simpa using Ne.symm hb0)
  have hbl := hr.lt
  obtain ⟨i0, hi, hz0, hz1, hz2⟩ := info_parts Tryz.infoNode
  have HI := hid (And.intro hi (And.intro hz0 (And.intro hz1 hz2)))
  clear hi hz0 hz1 hz2
  have HP := hid hp
  have HR := hid hr
  clear hp hr
  go_enter Tryz.func164, Tryz.ntmps164
  go_wp2_with fail
  go_loopw [3] (fun v wr => ∃ (k' : Nat) (done rest : List Value), vs = done ++ rest ∧ wr.ownsRow w.heap.size 173 1 v done.length done ∧ Rd wr b src k' g ∧ Kp [b] w wr ∧ RowOk b src g k' rest) (fun _ wr => 3000 - atOf wr b)
  case atStart => exact ⟨k, [], vs, rfl, World.ownsRow_nil _ _ _ _, HR.out, Kp.refl _ _, HP.out⟩
  case round =>
    obtain ⟨k', done, rest, hvs, own, rd, kp, rok⟩ := hrel
    have OWN := hid own
    have hsm := rd.small
    cases rest with
    | nil =>
      have hk' : k' = src.size := rok
      have he2 : ((k' : Int) == (src.size : Int)) = true := by simp; omega
      have HV := hid hvs
      have HK := hid hk'
      clear hvs hk' rok own HR HP
      go_wp2_with fail
      refine (ended_r rd he2).mono ?_
      rintro e w1 ⟨rfl, r1, k1⟩
      go_wp2_with fail
      go_ret
      refine ⟨_, rfl, ?_, by rw [← HK.out]; exact r1, kp.trans k1⟩
      have hv := HV.out
      rw [List.append_nil] at hv
      rw [hv]
      exact ownsRow_keep OWN.out k1 (fun x hx => by rw [List.mem_singleton.1 hx]; exact hbl)
    | cons pv rest =>
      obtain ⟨hk, h124, h41, ⟨tv, xv, rfl⟩, l, hkl, pok, rok'⟩ := rok
      have he1 : ((k' : Int) == (src.size : Int)) = false := by simp; omega
      have HV := hid (And.intro hvs (And.intro pok rok'))
      have hdl : done.length ≤ 1000 := by rw [hvs, List.length_append] at hlen; omega
      clear hvs pok rok' own HR HP
      go_wp2_with fail
      refine (ended_r rd he1).mono ?_
      rintro e w1 ⟨rfl, r1, k1⟩
      go_wp2_with fail
      refine (sees_r 124 r1 h124).mono ?_
      rintro e w2 ⟨rfl, r2, k2⟩
      go_wp2_with fail
      refine (sees_r 41 r2 h41).mono ?_
      rintro e w3 ⟨rfl, r3, k3⟩
      have k3' : Kp [b] wr w3 := k1.trans (k2.trans k3)
      have hw3 := hw.keep (kp.trans k3') HB.out
      clear r1 r2
      go_wp2_with fail
      refine (HV.out.2.1 _ r3 hw3).mono ?_
      rintro e w4 ⟨rfl, r4, k4⟩
      have kw4 : Kp [b] w w4 := kp.trans (k3'.trans k4)
      have O4 := hid (ownsRow_keep OWN.out (k3'.trans k4) (fun x hx => by rw [List.mem_singleton.1 hx]; exact hbl))
      have hz4 := kw4.size
      clear r3 hw3
      go_wp2_with (at_builtin; refine wpList_append_own _ rfl _ _ 211 rfl w.heap.size 173 i0 .nilIface 1 16 Tryz.underlying211 HI.out.1 HI.out.2.1 HI.out.2.2.1 HI.out.2.2.2 rfl (by decide) _ _ _ rfl (O4.out.alloc _) ⟨w4.heap.size, 0, none⟩ 1 1 [.iface tv xv] rfl rfl ?c1 ?c2 ?c3 ?c4 ?c5 ?_)
      case c1 => exact cell_one_new _ _ _
      case c2 => intro u hu; simp at hu; subst hu; rfl
      case c3 => unfold maxLen; omega
      case c4 => omega
      case c5 => simp; omega
      intro v' w5 hown hgrow _
      have kg := grown_kp hgrow
      have hge : ∀ x, x ∈ (Value.ownBlock _).toList → w.heap.size ≤ x := fun x hx => (O4.out.lt x (by simpa using hx)).1
      have kw5 : Kp [b] w w5 := ⟨kg.os.trans kw4.os, kg.tape.trans kw4.tape, kg.output.trans kw4.output, Nat.le_trans kw4.size (Nat.le_trans (by simp) kg.size), fun q hq hn => (kg.block q (by simp; omega) (fun e => by have := hge q e; omega)).trans (((Kp.alloc [] w4 _).block q (by omega) (by simp)).trans (kw4.block q hq hn))⟩
      have r5 := (r4.keep (Kp.alloc [] w4 (.cells #[.iface tv xv] 173)) (by simp)).keep kg (fun e => by have := hge b e; omega)
      have HD := hid (And.intro hown (And.intro kw5 r5))
      have hat1 := atOf_rd rd
      have hat2 := atOf_rd r5
      have hls := r5.le
      clear hown hgrow kw5 r5 kg hge
      go_wp2_with fail
      refine ⟨⟨l, done ++ [.iface tv xv], rest, by rw [List.append_assoc]; exact HV.out.1, by simpa using HD.out.1, HD.out.2.2, HD.out.2.1, HV.out.2.2⟩, ?_⟩
      rw [hat1, hat2]; omega

set_option maxRecDepth 100000 in
set_option maxHeartbeats 1000000 in
theorem branches_row {b : Nat} {src : ByteArray} {k g : Nat} {vs : List Value} {w : World} (hr : Rd w b src k g) (hw : Nm w) (hb0 : b ≠ 0) (hp : RowOk b src g k vs) (hlen : vs.length ≤ 1000) :
    Calls Tryz.prog 156 #[.pointer (some ⟨b, 0, none⟩)] w fun e w' => ∃ (q : Nat) (v : Value), e = .returned (.iface 207 (.slice (some ⟨q, 0, none⟩) 1 1)) ∧ w.heap.size ≤ q ∧ q < w'.heap.size ∧ w'.cell? ⟨q, 0, none⟩ = some (.iface 211 v) ∧
      w'.ownsRow w.heap.size 173 1 v vs.length vs ∧ Rd w' b src src.size g ∧ Kp [b] w w' := by
  have hs124 : saw src src.size 124 = false := by unfold saw; rw [dif_neg (by omega)]
  have hbl0 := hr.lt
  go_enter Tryz.func156, Tryz.ntmps156
  go_wp2_with fail
  refine (branch_row hr hw hb0 hp hlen).mono ?_
  rintro e w1 ⟨v, rfl, own1, r1, k1⟩
  have hz1 := k1.size
  have hbl := r1.lt
  have O1 := hid own1
  clear hp own1
  go_wp2_with fail
  obtain ⟨o, ho⟩ : ∃ o : Obj, o = .cells #[.iface 211 v] 173 := ⟨_, rfl⟩
  have k2 := Kp.alloc [b] w1 o
  have r2 := r1.keep (Kp.alloc [] w1 o) (by simp)
  have hc : (w1.alloc o).cell? ⟨w1.heap.size, 0, none⟩ = some (.iface 211 v) := by rw [ho]; simp
  have hz2 : (w1.alloc o).heap.size = w1.heap.size + 1 := by simp
  have O2 := hid (O1.out.alloc o)
  rw [← ho]
  generalize w1.alloc o = w2 at *
  clear ho
  refine wp_loop_rounds 1 ?_
  rw [rounds_succ]
  go_wp2_with fail
  refine (take_no 124 r2 hs124).mono ?_
  rintro e w3 ⟨rfl, r3, k3⟩
  have h1 := (k3.cell (p := ⟨w1.heap.size, 0, none⟩) (by rw [hz2]; exact Nat.lt_succ_self _) (by simp; omega)).trans hc
  have O3 := hid (ownsRow_keep O2.out k3 (fun x hx => by rw [List.mem_singleton.1 hx]; exact hbl0))
  have hz3 := k3.size
  clear hc
  go_wp2_with fail
  go_ret
  exact ⟨w1.heap.size, v, rfl, hz1, by omega, h1, O3.out, r3, k1.trans (k2.trans k3)⟩

set_option maxHeartbeats 400000 in
theorem whole_row {b : Nat} {src : ByteArray} {k g : Nat} {vs : List Value} {w : World} (hr : Rd w b src k g) (hw : Nm w) (hb0 : b ≠ 0) (hp : RowOk b src g k vs) (hlen : vs.length ≤ 1000) :
    Calls Tryz.prog 143 #[.pointer (some ⟨b, 0, none⟩)] w fun e w' => ∃ (q : Nat) (v : Value), e = .returned (.iface 207 (.slice (some ⟨q, 0, none⟩) 1 1)) ∧ w.heap.size ≤ q ∧ q < w'.heap.size ∧ w'.cell? ⟨q, 0, none⟩ = some (.iface 211 v) ∧
      w'.ownsRow w.heap.size 173 1 v vs.length vs ∧ Rd w' b src src.size g ∧ Kp [b] w w' := by
  have he2 : ((src.size : Int) == (src.size : Int)) = true := by simp
  have hbl := hr.lt
  go_enter Tryz.func143, Tryz.ntmps143
  go_wp2_with fail
  refine (branches_row hr hw hb0 hp hlen).mono ?_
  rintro e w1 ⟨q, v, rfl, hq1, hq2, hq3, own1, r1, k1⟩
  have O1 := hid own1
  clear hp own1
  go_wp2_with fail
  refine (ended_r r1 he2).mono ?_
  rintro e w2 ⟨rfl, r2, k2⟩
  have h1 := (k2.cell (p := ⟨q, 0, none⟩) hq2 (by simp; omega)).trans hq3
  have O2 := hid (ownsRow_keep O1.out k2 (fun x hx => by rw [List.mem_singleton.1 hx]; exact hbl))
  have hz2 := k2.size
  clear hq3
  go_wp2_with fail
  go_ret
  exact ⟨q, v, rfl, hq1, by omega, h1, O2.out, r2, k1.trans k2⟩
end Go.Proofs.YtonnimbcekhbgaaGreatDoor

/- The size of a row of pieces, and its instructions: contracts. -/
namespace Go.Proofs.YtonnimbcekhbgaaGreatDoor
open Go.RowKit

/-- A piece: a byte of m (kind 0), the text's beginning (1) or its end (2). -/
structure Pc where
  kind : Nat
  m : Nat → Bool
def Pc.val (p : Pc) : Value := if p.kind = 0 then oneV p.m else edgeV p.kind

theorem size_of_edge (v : Value) (w : World) : (method 348 217 v "ribbon/pattern.size").run Tryz.prog w = .ok (208, v) w := by kernel_rfl
theorem emit_of_edge (v : Value) (w : World) : (method 348 217 v "ribbon/pattern.emit").run Tryz.prog w = .ok (207, v) w := by kernel_rfl

set_option maxRecDepth 100000 in
set_option maxHeartbeats 400000 in
theorem edge_size (k : Int) (w : World) : Calls Tryz.prog 208 #[.agg #[.int .i64 k]] w fun e w' => e = .returned (.int .i64 1) ∧ Kp [] w w' := by
  go_enter Tryz.func208, Tryz.ntmps208
  go_wp2
  go_ret
  exact ⟨rfl, Kp.alloc _ _ _⟩

set_option maxRecDepth 100000 in
set_option maxHeartbeats 800000 in
theorem edge_emit {L n : Nat} {xs : List Value} {d dp : Nat} {w : World} (h : Ls w L n xs d dp) (hn : n ≤ 100000) (k next : Int) :
    Calls Tryz.prog 207 #[.agg #[.int .i64 k], .pointer (some ⟨L, 0, none⟩), .int .i64 next] w fun e w' => e = .returned (.int .i64 n) ∧ Ls w' L (n + 1) (xs ++ ins0 k next 0 0 0) d dp ∧ Below L w w' := by
  have hl := h.lt
  go_enter Tryz.func207, Tryz.ntmps207
  go_wp2_with fail
  refine (listAdd0 (h.keep (Kp.alloc _ _ _)) hn k next 0 0 0).mono ?_
  rintro e w1 ⟨rfl, h1, b1⟩
  go_wp2_with fail
  go_ret
  exact ⟨rfl, h1, ((Below.refl L w).alloc (by omega) _).trans b1⟩

set_option maxRecDepth 100000 in
set_option maxHeartbeats 1000000 in
theorem row_size_any {B : Nat} {pcs : List Pc} {v : Value} {w : World} (own : w.ownsRow B 173 1 v pcs.length (pcs.map Pc.val)) (hlen : pcs.length ≤ 200) :
    Calls Tryz.prog 206 #[v] w fun e w' => e = .returned (.int .i64 pcs.length) ∧ Kp [] w w' := by
  have hm1 := size_of_one
  have hm2 := size_of_edge
  have OWN := hid own
  obtain ⟨n, hn⟩ : ∃ n, pcs.length = n := ⟨_, rfl⟩
  rw [hn] at hlen
  have hsl : ∃ ao c, v = .slice ao n c := by
    rcases own_formP own with ⟨q, q2⟩ | ⟨g, c, q⟩
    · exact ⟨none, 0, by rw [q, ← hn, q2]⟩
    · exact ⟨_, c, by rw [q, hn]⟩
  obtain ⟨ao, c, rfl⟩ := hsl
  clear own
  go_enter Tryz.func206, Tryz.ntmps206
  go_wp2_with fail
  go_loopw [3, 8] (fun s i wr => ∃ k : Nat, k ≤ n ∧ s = .int .i64 k ∧ i = .int .i64 k ∧ Kp [] w wr) (fun _ i _ => n - (intOf i).toNat)
  case atStart => exact ⟨0, by omega, rfl, rfl, Kp.refl _ _⟩
  case round =>
    obtain ⟨k, hk, rfl, rfl, kr⟩ := hrel
    by_cases hlt : k < n
    · obtain ⟨p, hp⟩ : ∃ p, pcs[k]? = some p := ⟨pcs[k]'(by omega), List.getElem?_eq_getElem (by omega)⟩
      rcases own_formP OWN.out with ⟨_, q⟩ | ⟨r, c', q⟩
      · omega
      · simp only [Value.slice.injEq] at q
        obtain ⟨rfl, hx, rfl⟩ := q
        clear hx
        have o := OWN.out
        rw [← hn] at o
        have hc := row_at o k p.val (by rw [List.getElem?_map, hp]; rfl)
        rw [Nat.zero_add] at hc
        have hc2 := (kr.cell (World.block_lt_of_cell? _ _ hc) (by simp)).trans hc
        clear hc o
        by_cases hk0 : p.kind = 0
        · have hv : p.val = oneV p.m := by unfold Pc.val; rw [if_pos hk0]
          rw [hv] at hc2
          have HNN := hid hn
          clear hv hp hn hk0
          go_wp2_with fail
          refine (one_size p.m _).mono ?_
          rintro e w1 ⟨rfl, k1⟩
          go_wp2_with fail
          exact ⟨⟨k + 1, by omega, by go_num, by go_num, kr.trans k1⟩, by simp [intOf]; omega⟩
        · have hv : p.val = edgeV p.kind := by unfold Pc.val; rw [if_neg hk0]
          rw [hv] at hc2
          have HNN := hid hn
          clear hv hp hn hk0
          go_wp2_with fail
          refine (edge_size p.kind _).mono ?_
          rintro e w1 ⟨rfl, k1⟩
          go_wp2_with fail
          exact ⟨⟨k + 1, by omega, by go_num, by go_num, kr.trans k1⟩, by simp [intOf]; omega⟩
    · have hkn : k = n := by omega
      subst hkn
      have hmin : min (k : Int) 301 = k := by omega
      go_wp2_with fail
      go_ret
      refine ⟨?_, kr⟩
      rw [hn]; go_num

set_option maxRecDepth 100000 in
set_option maxHeartbeats 400000 in
theorem branches_size_row {B q : Nat} {pcs : List Pc} {v : Value} {w : World} (hq : w.cell? ⟨q, 0, none⟩ = some (.iface 211 v)) (own : w.ownsRow B 173 1 v pcs.length (pcs.map Pc.val)) (hlen : pcs.length ≤ 200) :
    Calls Tryz.prog 204 #[.slice (some ⟨q, 0, none⟩) 1 1] w fun e w' => e = .returned (.int .i64 pcs.length) ∧ Kp [] w w' := by
  have hm := size_of_row
  have OWN := hid own
  have hmin : min (pcs.length : Int) 301 = pcs.length := by omega
  clear own
  go_enter Tryz.func204, Tryz.ntmps204
  go_wp2_with fail
  refine wp_loop_rounds 2 ?_
  rw [rounds_succ]
  go_wp2_with fail
  refine (row_size_any OWN.out hlen).mono ?_
  rintro e w1 ⟨rfl, k1⟩
  go_wp2_with fail
  rw [rounds_succ]
  go_wp2_with fail
  go_ret
  exact ⟨by go_num, k1⟩

/-- A piece's instruction. -/
def Pc.ins (p : Pc) (next : Int) (d : Nat) : List Value := if p.kind = 0 then Go.Proofs.YtonnimbcekhbgaaGreatDoor.ins 0 next 0 0 d p.m else ins0 p.kind next 0 0 0
/-- The instructions of pieces, the last one first, behind n others; and where the row begins. -/
def rowCode (d : Nat) : List Pc → Nat → Int → List Value
  | [], _, _ => []
  | p :: ps, n, next => p.ins next d ++ rowCode d ps (n + 1) n
def rowBegin : List Pc → Nat → Int → Int
  | [], _, next => next
  | _ :: ps, n, _ => rowBegin ps (n + 1) n

set_option maxRecDepth 100000 in
set_option maxHeartbeats 1000000 in
theorem row_emit_any {B L n : Nat} {xs : List Value} {d dp : Nat} {pcs : List Pc} {v : Value} {w : World} (h : Ls w L n xs d dp) (hn : n ≤ 1000) (next : Int) (own : w.ownsRow B 173 1 v pcs.length (pcs.map Pc.val)) (hlen : pcs.length ≤ 200) (hvL : ∀ g, v.ownBlock = some g → g < L) :
    Calls Tryz.prog 205 #[v, .pointer (some ⟨L, 0, none⟩), .int .i64 next] w fun e w' => e = .returned (.int .i64 (rowBegin pcs.reverse n next)) ∧ Ls w' L (n + pcs.length) (xs ++ rowCode d pcs.reverse n next) d dp ∧ Below L w w' := by
  have hm1 := emit_of_one
  have hm2 := emit_of_edge
  have OWN := hid own
  have HL := hid h
  have HVL := hid hvL
  obtain ⟨N, hN⟩ : ∃ N, pcs.length = N := ⟨_, rfl⟩
  rw [hN] at hlen
  have hsl : ∃ ao c, v = .slice ao N c := by
    rcases own_formP own with ⟨q, q2⟩ | ⟨g, c, q⟩
    · exact ⟨none, 0, by rw [q, ← hN, q2]⟩
    · exact ⟨_, c, by rw [q, hN]⟩
  obtain ⟨ao, c, rfl⟩ := hsl
  have HNN := hid hN
  clear own h hvL hN
  go_enter Tryz.func205, Tryz.ntmps205
  go_wp2_with fail
  go_loopw [2, 7] (fun nx i wr => ∃ (k : Nat) (done todo : List Pc) (ys : List Value) (nxv : Int), k ≤ N ∧ i = .int .i64 ((k : Int) - 1) ∧ nx = .int .i64 nxv ∧ pcs = todo ++ done ∧ todo.length = k ∧ Ls wr L (n + done.length) ys d dp ∧ Below L w wr ∧
      Hid (ys ++ rowCode d todo.reverse (n + done.length) nxv = xs ++ rowCode d pcs.reverse n next ∧ rowBegin todo.reverse (n + done.length) nxv = rowBegin pcs.reverse n next)) (fun _ i _ => ((intOf i) + 1).toNat)
  case atStart => exact ⟨N, [], pcs, xs, next, Nat.le_refl _, by go_num, rfl, by simp, HNN.out, HL.out, Below.refl _ _, hid ⟨rfl, rfl⟩⟩
  case round =>
    obtain ⟨k, done, todo, ys, nxv, hk, rfl, rfl, hpc, htl, ls, bl, eqs⟩ := hrel
    match k, htl, hk with
    | 0, htl, hk =>
      have htd : todo = [] := List.length_eq_zero_iff.1 htl
      subst htd
      have q := eqs.out
      simp only [List.reverse_nil, rowCode, rowBegin, List.append_nil] at q
      have hdl : done.length = pcs.length := by rw [hpc]; simp
      have LS := hid ls
      have Q := hid (And.intro q hdl)
      clear ls q hpc eqs htl hdl
      go_wp2_with fail
      go_ret
      refine ⟨?_, ?_, bl⟩
      · rw [← Q.out.1.2]; go_num
      · rw [← Q.out.1.1, ← Q.out.2]; exact LS.out
    | j + 1, htl, hk =>
      rcases List.eq_nil_or_concat todo with hnil | ⟨td, p, hcons⟩
      · rw [hnil] at htl; cases htl
      rw [List.concat_eq_append] at hcons
      subst hcons
      have htd : td.length = j := by simpa using htl
      have ej : (((j + 1 : Nat)) : Int) - 1 = (j : Int) := by omega
      rw [ej]
      have hdl : n + done.length ≤ 2000 := by
        have := HNN.out
        rw [hpc] at this
        simp at this
        omega
      rcases own_formP OWN.out with ⟨_, q⟩ | ⟨r, c', q⟩
      · rw [hpc] at q; simp at q
      · simp only [Value.slice.injEq] at q
        obtain ⟨rfl, hx, rfl⟩ := q
        have o := OWN.out
        rw [hx] at o
        have hc := row_at o j p.val (by rw [List.getElem?_map, hpc, List.append_assoc, List.getElem?_append_right (by omega), htd, Nat.sub_self]; rfl)
        rw [Nat.zero_add] at hc
        have hc2 := (bl.cell (p := ⟨r, j, none⟩) (HVL.out r rfl)).trans hc
        have HPC := hid (And.intro hpc htd)
        have LS := hid ls
        clear hc o hx hpc htl htd ej ls
        by_cases hk0 : p.kind = 0
        · have hv : p.val = oneV p.m := by unfold Pc.val; rw [if_pos hk0]
          have hpi : ys ++ p.ins nxv d = ys ++ Go.Proofs.YtonnimbcekhbgaaGreatDoor.ins 0 nxv 0 0 d p.m := by unfold Pc.ins; rw [if_pos hk0]
          rw [hv] at hc2
          clear hv hk0
          go_wp2_with fail
          refine (one_emit LS.out (by omega) nxv p.m).mono ?_
          rintro e w1 ⟨rfl, l1, b1⟩
          have L1 := hid l1
          clear l1
          go_wp2_with fail
          refine ⟨⟨j, p :: done, td, ys ++ p.ins nxv d, ((n + done.length : Nat) : Int), by omega, by go_num, by go_num, by rw [HPC.out.1]; simp, HPC.out.2, by rw [hpi]; exact L1.out, bl.trans b1, hid ?_⟩, by simp [intOf]⟩
          have q := eqs.out
          rw [List.reverse_append, List.reverse_singleton, List.singleton_append, rowCode, rowBegin, ← List.append_assoc] at q
          exact q
        · have hv : p.val = edgeV p.kind := by unfold Pc.val; rw [if_neg hk0]
          have hpi : ys ++ p.ins nxv d = ys ++ ins0 p.kind nxv 0 0 0 := by unfold Pc.ins; rw [if_neg hk0]
          rw [hv] at hc2
          clear hv hk0
          go_wp2_with fail
          refine (edge_emit LS.out (by omega) p.kind nxv).mono ?_
          rintro e w1 ⟨rfl, l1, b1⟩
          have L1 := hid l1
          clear l1
          go_wp2_with fail
          refine ⟨⟨j, p :: done, td, ys ++ p.ins nxv d, ((n + done.length : Nat) : Int), by omega, by go_num, by go_num, by rw [HPC.out.1]; simp, HPC.out.2, by rw [hpi]; exact L1.out, bl.trans b1, hid ?_⟩, by simp [intOf]⟩
          have q := eqs.out
          rw [List.reverse_append, List.reverse_singleton, List.singleton_append, rowCode, rowBegin, ← List.append_assoc] at q
          exact q

set_option maxRecDepth 100000 in
set_option maxHeartbeats 400000 in
theorem branches_emit_row {B L n q : Nat} {xs : List Value} {d dp : Nat} {pcs : List Pc} {v : Value} {w : World} (h : Ls w L n xs d dp) (hn : n ≤ 1000) (next : Int) (hq : w.cell? ⟨q, 0, none⟩ = some (.iface 211 v)) (own : w.ownsRow B 173 1 v pcs.length (pcs.map Pc.val)) (hlen : pcs.length ≤ 200) (hvL : ∀ g, v.ownBlock = some g → g < L) :
    Calls Tryz.prog 203 #[.slice (some ⟨q, 0, none⟩) 1 1, .pointer (some ⟨L, 0, none⟩), .int .i64 next] w fun e w' => e = .returned (.int .i64 (rowBegin pcs.reverse n next)) ∧ Ls w' L (n + pcs.length) (xs ++ rowCode d pcs.reverse n next) d dp ∧ Below L w w' := by
  have hm := emit_of_row
  have OWN := hid own
  have HL := hid h
  clear own h
  go_enter Tryz.func203, Tryz.ntmps203
  go_wp2_with fail
  refine (row_emit_any HL.out hn next OWN.out hlen hvL).mono ?_
  rintro e w1 ⟨rfl, h1, b1⟩
  have H1 := hid h1
  clear hq h1
  go_wp2_with fail
  refine wp_loop_rounds 1 ?_
  rw [rounds_succ]
  go_wp2_with fail
  go_ret
  exact ⟨rfl, H1.out, b1⟩
end Go.Proofs.YtonnimbcekhbgaaGreatDoor
