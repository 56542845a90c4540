/- What the machine does is one thing: worked out; 'b+' in 'abbc'. -/
import Derived.Test.YtbakfojamdocgaaDoorBE
import Derived.Test.YtbakfojamdocgaaDoorLD
namespace Go.Proofs.YtbakfojamdocgaaDoor
open Go.RowKit

section
variable {cd : Nat → In} {D : Nat} {text : ByteArray}

theorem drive_more {pl : Nat} {r : Mc} : ∀ (k : Nat) (o : Option Thr) (s : Mc), drive cd D text pl k o s = some r → drive cd D text pl (k + 1) o s = some r
  | 0, o, s, h => by rw [drive] at h; cases h
  | k + 1, some t, s, h => by
    rw [drive] at h ⊢
    split at h
    · next q => rw [if_pos q]; exact drive_more k _ _ h
    · next q => rw [if_neg q]; exact drive_more k _ _ h
  | k + 1, none, s, h => by
    rw [drive] at h ⊢
    cases e : s.left.getLast? with
    | none => rw [e] at h; exact h
    | some t => rw [e] at h; exact drive_more k _ _ h
theorem drive_le {pl : Nat} {r : Mc} {o : Option Thr} {s : Mc} {k : Nat} (h : drive cd D text pl k o s = some r) : ∀ j, drive cd D text pl (k + j) o s = some r
  | 0 => h
  | j + 1 => drive_more _ _ _ (drive_le h j)
theorem drive_one {pl : Nat} {r r' : Mc} {o : Option Thr} {s : Mc} {k k' : Nat} (h : drive cd D text pl k o s = some r) (h' : drive cd D text pl k' o s = some r') : r = r' := by
  have a := drive_le h k'
  have b := drive_le h' k
  rw [Nat.add_comm k' k] at b
  exact Option.some.inj (a.symm.trans b)

/-- All ways of a place, with so much patience. -/
def sweepF (cd : Nat → In) (D : Nat) (text : ByteArray) (F pl : Nat) : List Thr → Mc → Option Mc
  | [], s => some s
  | t :: l, s => if s.fd = true ∧ s.best 0 < t.x 0 then some s else match drive cd D text pl F (some t) s with
    | some s1 => sweepF cd D text F pl l s1
    | none => none
theorem sweep_one {pl F : Nat} {r s' : Mc} : ∀ (l : List Thr) (s : Mc), Sweep cd D text pl l s s' → sweepF cd D text F pl l s = some r → s' = r
  | [], s, h, e => by rw [Sweep] at h; rw [sweepF] at e; rw [h]; exact Option.some.inj e
  | t :: l, s, h, e => by
    rw [Sweep] at h; rw [sweepF] at e
    rcases h with ⟨h1, h2, h3⟩ | ⟨h1, s1, ⟨k, h2⟩, h3⟩
    · rw [if_pos ⟨h1, h2⟩] at e; rw [h3]; exact Option.some.inj e
    · rw [if_neg h1] at e
      cases q : drive cd D text pl F (some t) s with
      | none => rw [q] at e; cases e
      | some s2 =>
        rw [q] at e
        have := drive_one h2 q
        subst this
        exact sweep_one l s1 h3 e
/-- Place by place, with so much patience. -/
def runsF (cd : Nat → In) (D : Nat) (text : ByteArray) (bg F : Nat) : Nat → Nat → List Thr → Mc → Option Mc
  | 0, _, _, s => some s
  | k + 1, pl, here, s => match (if s.fd = true then here else here ++ [⟨bg, 0, nz pl⟩]) with
    | [] => some s
    | t :: l => match sweepF cd D text F pl (t :: l) s with
      | some s1 => runsF cd D text bg F k (pl + 1) s1.ahead { s1 with ahead := [] }
      | none => none
theorem runs_one {bg F : Nat} {r s' : Mc} : ∀ (k pl : Nat) (here : List Thr) (s : Mc), Runs cd D text bg k pl here s s' → runsF cd D text bg F k pl here s = some r → s' = r
  | 0, pl, here, s, h, e => by rw [Runs] at h; rw [runsF] at e; rw [h]; exact Option.some.inj e
  | k + 1, pl, here, s, h, e => by
    rw [Runs] at h; rw [runsF] at e
    generalize (if s.fd = true then here else here ++ [⟨bg, 0, nz pl⟩]) = hh at h e
    cases hh with
    | nil =>
      rcases h with ⟨_, h⟩ | ⟨h, _⟩
      · rw [h]; exact Option.some.inj e
      · exact absurd rfl h
    | cons t l =>
      rcases h with ⟨h, _⟩ | ⟨_, s1, h1, h2⟩
      · cases h
      · cases q : sweepF cd D text F pl (t :: l) s with
        | none => simp only [q] at e; cases e
        | some s2 =>
          simp only [q] at e
          have := sweep_one _ _ h1 q
          subst this
          exact runs_one k (pl + 1) _ _ h2 e
end

/-- found says true where the machine says so: a pattern without groups. -/
theorem found_gen {src text : ByteArray} {n bg deepest : Nat} {xs : List Value} {cd : Nat → In} {w : World} {a b : Nat} (hw : Nm w) (hs : src.size ≤ 100) (ht : text.size ≤ 1000) (hn : n * (deepest + 1) ≤ 9000) (hbg : bg < n) (hp : Reads src 0 n bg deepest xs)
    (hcd : ∀ (B : Nat) (w : World) (p : Nat), PtR B w p n bg 0 deepest xs → ∃ g c, Cd w p g c n deepest cd)
    (hres : ∀ s', Runs cd deepest text bg (text.size + 1) 0 [] mc0 s' → s'.fd = true ∧ s'.best 0 = a ∧ s'.best 1 = b) :
    Calls Tryd.prog 10 #[.string src, .string text, .int .i64 a, .int .i64 b] w fun e w' => e = .returned (.bool true) ∧ Kp [] w w' := by
  have hm : Calls Tryd.prog 13 #[.string src, .string text] w fun e w' => Kp [] w w' ∧ ∃ q, e = .returned (.tuple #[.slice (some ⟨q, 0, none⟩) 2 2, .int .i64 0, .int .i64 0]) ∧ w'.cell? ⟨q, 0, none⟩ = some (.int .i64 a) ∧ w'.cell? ⟨q, 1, none⟩ = some (.int .i64 b) := by
    have hts : ¬ (1000 : Int) < text.size := by omega
    go_enter Tryd.func13, Tryd.ntmps13
    go_wp2_with fail
    refine (readPattern_gen hw hs (by omega) hp).mono ?_
    rintro e w1 ⟨p, rfl, pt, k1⟩
    obtain ⟨g, c, hcd1⟩ := hcd _ _ _ pt
    have HCD := hid (And.intro hcd1 (And.intro pt.c1 pt.c2))
    clear hcd1 pt hp hcd
    go_wp2_with fail
    refine (find_any (bg := bg) (G := 0) HCD.out.1 HCD.out.2.1 HCD.out.2.2 hbg hn (by omega) ht).mono ?_
    rintro e w2 ⟨k2, s', runs, hr⟩
    obtain ⟨h1, h2, h3⟩ := hres s' runs
    have H1 := hid (And.intro h1 (And.intro h2 h3))
    clear hres runs h1 h2 h3
    rcases hr with ⟨hfd, rfl⟩ | ⟨hfd, b, rfl, hc⟩
    · rw [H1.out.1] at hfd; cases hfd
    · go_wp2_with fail
      go_ret3
      exact ⟨k1.trans k2, b, rfl, by rw [hc 0 (by omega), H1.out.2.1], by rw [hc 1 (by omega), H1.out.2.2]⟩
  have hneg : ¬ (a : Int) < 0 := by omega
  have HM := hid hm
  clear hm hp hcd hres
  go_enter Tryd.func10, Tryd.ntmps10
  go_wp2_with fail
  refine HM.out.mono ?_
  rintro e w1 ⟨k1, q, rfl, c0, c1⟩
  go_wp2_with fail
  go_ret
  exact ⟨rfl, k1⟩

/-- The instructions of a byte as often as may be, once at least. -/
def plusCd (m : Nat → Bool) : Nat → In
  | 1 => ⟨4, 3, 0, 0, 0, noBytes⟩
  | 2 => ⟨5, 1, 0, 0, 0, noBytes⟩
  | 3 => ⟨0, 2, 0, 0, 1, m⟩
  | 4 => ⟨0, 1, 0, 0, 0, m⟩
  | _ => ⟨6, 0, 0, 0, 0, noBytes⟩

attribute [local irreducible] wd in
set_option maxHeartbeats 1000000 in
theorem cd_plus {B : Nat} {w : World} {p : Nat} {m : Nat → Bool} {bg : Int} (pt : PtR B w p 5 bg 0 1 (ins0 6 0 0 0 0 ++ ins0 4 3 0 0 0 ++ ins0 5 1 0 0 0 ++ ins 0 2 0 0 1 m ++ ins 0 1 0 0 0 m)) : ∃ g c, Cd w p g c 5 1 (plusCd m) := by
  obtain ⟨g, c, h1, h2⟩ := pt.code
  have hl := (h2.lt g rfl).2
  have hz : ∀ i, wd noBytes i = 0 := wd_none
  have cell : ∀ a, a < 5 → ∀ j, j < 9 → w.cell? ⟨g, a * 9 + j, none⟩ = [Value.int .i64 (plusCd m a).kind, .int .i64 (plusCd m a).nx, .int .i64 (plusCd m a).ot, .int .i64 (plusCd m a).sl, .int .i64 (plusCd m a).dp, .int .u64 (wd (plusCd m a).m 0), .int .u64 (wd (plusCd m a).m 1), .int .u64 (wd (plusCd m a).m 2), .int .u64 (wd (plusCd m a).m 3)][j]? := by
    intro a ha j hj
    rw [h2.cellAt (a * 9 + j) (by omega)]
    match a, ha with
    | 0, _ => simp only [plusCd, hz]; match j, hj with
      | 0, _ | 1, _ | 2, _ | 3, _ | 4, _ | 5, _ | 6, _ | 7, _ | 8, _ => rfl
    | 1, _ => simp only [plusCd, hz]; match j, hj with
      | 0, _ | 1, _ | 2, _ | 3, _ | 4, _ | 5, _ | 6, _ | 7, _ | 8, _ => rfl
    | 2, _ => simp only [plusCd, hz]; match j, hj with
      | 0, _ | 1, _ | 2, _ | 3, _ | 4, _ | 5, _ | 6, _ | 7, _ | 8, _ => rfl
    | 3, _ => simp only [plusCd, ins]; match j, hj with
      | 0, _ | 1, _ | 2, _ | 3, _ | 4, _ | 5, _ | 6, _ | 7, _ | 8, _ => rfl
    | 4, _ => simp only [plusCd, ins]; match j, hj with
      | 0, _ | 1, _ | 2, _ | 3, _ | 4, _ | 5, _ | 6, _ | 7, _ | 8, _ => rfl
  have good : ∀ a, a < 5 → (plusCd m a).kind ≤ 6 ∧ (plusCd m a).nx < 5 ∧ (plusCd m a).ot < 5 ∧ (plusCd m a).sl < 20 ∧ (plusCd m a).dp ≤ 1 := by
    intro a ha
    match a, ha with
    | 0, _ | 1, _ | 2, _ | 3, _ | 4, _ => simp [plusCd]
  exact ⟨g, c, ⟨pt.lt, hl, h1, pt.c3, fun a ha => cell a ha 0 (by omega), fun a ha => cell a ha 1 (by omega), fun a ha => cell a ha 2 (by omega), fun a ha => cell a ha 3 (by omega), fun a ha => cell a ha 4 (by omega), fun a ha => cell a ha 5 (by omega), fun a ha => cell a ha 6 (by omega), fun a ha => cell a ha 7 (by omega), fun a ha => cell a ha 8 (by omega), good⟩⟩

def abbc : ByteArray := ⟨#[97, 98, 98, 99]⟩
def bplus : ByteArray := ⟨#[98, 43]⟩

theorem runs_bplus : (runsF (plusCd (span noBytes 98 99)) 1 abbc 4 50 5 0 [] mc0).map (fun s => (s.fd, s.best 0, s.best 1)) = some (true, 1, 3) := by
  decide +kernel

theorem row_bplus (b : Nat) : RowOk b bplus 0 0 [repV (span noBytes 98 99)] := by
  refine ⟨by decide, by decide, by decide, ⟨_, _, rfl⟩, 2, by omega, ?_, rfl⟩
  exact piece_plus (l := 1) (by omega) (by decide) (by decide) (by decide) (by decide) (by decide) (byte_plain (src := bplus) (k := 0) (by decide) (by decide) (by decide) (by decide)) (by decide) (by decide)

theorem found_bplus {w : World} (hw : Nm w) : Calls Tryd.prog 10 #[.string bplus, .string abbc, .int .i64 1, .int .i64 3] w fun e w' => e = .returned (.bool true) ∧ Kp [] w w' := by
  refine found_gen (a := 1) (b := 3) (bg := 4) hw (by decide) (by decide) (by decide) (by decide) (reads_plus (fun b _ => row_bplus b)) (fun B w p pt => cd_plus pt) (fun s' h => ?_)
  have q := runs_bplus
  cases e : runsF (plusCd (span noBytes 98 99)) 1 abbc 4 50 5 0 [] mc0 with
  | none => rw [e] at q; cases q
  | some r =>
    have := runs_one (F := 50) _ _ _ _ h e
    subst this
    rw [e] at q
    simp only [Option.map_some, Option.some.injEq, Prod.mk.injEq] at q
    exact ⟨q.1, q.2.1, q.2.2⟩
end Go.Proofs.YtbakfojamdocgaaDoor
