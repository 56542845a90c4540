/- What the law's scripts do with its lines: kq k, and a last line without its newline. -/
import Derived.Test.YtonnimbcekhbgaaGreatDoorFQ
namespace Go.Proofs.YtonnimbcekhbgaaGreatDoor
open Go.RowKit

section
variable {σ : Sst} {ls : List (List UInt8)}

/-- kq k -/
def qS (K : Nat) : ByteArray := dg K ++ ⟨#[113, 32]⟩ ++ dg K
def qOk (K : Nat) : Bool :=
  isD (qS K) 0 && (numN (qS K) 1 1000000 0 10 0 0 == some (K, (dg K).size)) && !(saw (qS K) (dg K).size 44) && (blk (qS K) (dg K).size == (dg K).size) && !(saw (qS K) (dg K).size 33) && saw (qS K) (dg K).size 113 &&
  (numN (qS K) 0 255 (blk (qS K) ((dg K).size + 1)) 10 0 (blk (qS K) ((dg K).size + 1)) == some (K, (qS K).size)) && mayEnd (qS K) (blk (qS K) (qS K).size) && (blk (qS K) (qS K).size == (qS K).size) && (btwN (qS K) 10 0 == some 0) && (btwN (qS K) 10 (qS K).size == some (qS K).size) && !(qtB (qS K)) && decide (0 < (dg K).size) && decide ((qS K).size ≤ 2000)
theorem qOk_all : ∀ K, K < 21 → 1 ≤ K → qOk K = true := by decide +kernel

theorem saw_at {s : ByteArray} {k : Nat} {x : Nat} (h : saw s k x = true) : ∃ hk : k < s.size, (s[k]).toNat = x := by
  unfold saw at h
  split at h
  · rename_i hk
    refine ⟨hk, ?_⟩
    simp at h
    omega
  · cases h

abbrev qR (K : Nat) : Sst → List Value → Sst → List Value → Prop := fun σ cv σ' cv' => σ' = σ ∧ cv' = cv.set 8 (.int .i64 K)
theorem script_q {K : Nat} (h1 : 1 ≤ K) (h2 : K ≤ 20) : Script (qS K) (oneT [.num K] 113 (qR K)) := by
  have h := qOk_all K (by omega) h1
  simp only [qOk, Bool.and_eq_true, beq_iff_eq, Bool.not_eq_true', decide_eq_true_eq] at h
  obtain ⟨⟨⟨⟨⟨⟨⟨⟨⟨⟨⟨⟨⟨a1, a2⟩, a3⟩, a4⟩, a5⟩, a6⟩, a7⟩, a8⟩, a9⟩, a10⟩, a11⟩, a12⟩, a13⟩, a14⟩ := h
  obtain ⟨hk, hx⟩ := saw_at (x := 113) a6
  have hc : CmdAt (qS K) 0 ((dg K).size + 1) (qS K).size 74 113 [.num K] :=
    ⟨⟨(dg K).size, (dg K).size, ⟨⟨a1, 10, a2⟩, a3⟩, by rw [a4]; exact a5, a4.symm, ⟨hk, hx⟩, rfl⟩, ⟨10, by kernel_rfl⟩, by omega⟩
  refine ⟨a14, ⟨1, by omega, fun w0 b => .more a10 (by omega) (by omega) (hc.ok (op_status w0 a7) (opR_status K) enters_status a8 a9.symm) (cmdT_grows (opR_status K)) (.done a11)⟩, fun σ σ' hf e => ?_⟩
  obtain ⟨σ1, ⟨A, c, fs, σ2, cv, v, _, _, ⟨rfl, rfl⟩, rfl⟩, rfl⟩ := e
  exact ⟨hf.bs, hf.gs⟩

theorem q_facts {K : Nat} {σ σ' : Sst} (h1 : 1 ≤ K) (h2 : K ≤ 20) (hf : Fresh (qS K) σ) (h : oneT [.num K] 113 (qR K) σ σ') : σ'.ns.length ≤ 2000 ∧ σ'.ranges ≤ 2000 ∧ σ'.quiet = false ∧ ∃ c, σ'.cs = [c] ∧ AtNum σ' c 113 K ∧ c[8]? = some (.int .i64 K) := by
  have hq := qOk_all K (by omega) h1
  simp only [qOk, Bool.and_eq_true, beq_iff_eq, Bool.not_eq_true', decide_eq_true_eq] at hq
  obtain ⟨σ1, ⟨A, c, fs, σ2, cv, v, hav, _, ⟨rfl, rfl⟩, rfl⟩, rfl⟩ := h
  refine ⟨by show σ.ns.length ≤ _; rw [hf.ns]; simp, by show σ.ranges ≤ _; rw [hf.ranges]; omega, hf.quiet.trans hq.1.1.2, (cmdV (.slice A 1 c) 0 false 113).set 8 (.int .i64 K), ?_, AtNum.of rfl rfl rfl hav, rfl⟩
  show σ.cs ++ [(cmdV (.slice A 1 c) 0 false 113).set 8 (.int .i64 K)] = _
  rw [hf.cs]; rfl

theorem doesQ {K : Nat} {w : World} (h1 : 1 ≤ K) (h2 : K ≤ 20) (hl : Lok ls) (hk : K ≤ ls.length) : Calls Tryz.prog 12 #[.string (qS K), .string (ba (wh ls)), .string (ba (wh (ls.take K))), .int .i64 K] w fun r w' => r = .returned (.bool true) ∧ Kp [] w w' := by
  have hz := hl.size
  have hn := hl.len
  obtain ⟨A, L, B, rfl, hA⟩ : ∃ A L B, ls = A ++ L :: B ∧ A.length = K - 1 := by
    refine ⟨ls.take (K - 1), ls[K - 1], ls.drop K, ?_, by rw [List.length_take]; omega⟩
    have e := List.drop_eq_getElem_cons (l := ls) (i := K - 1) (by omega)
    rw [show K - 1 + 1 = K by omega] at e
    rw [← e, List.take_append_drop]
  have e : (A ++ L :: B).take K = A ++ [L] := by
    rw [show K = A.length + 1 by omega, List.take_append, List.take_of_length_le (by omega)]
    simp
  rw [e]
  refine does_v (ah := false) (script_q h1 h2) (by rw [ba_size]; omega) ?_ (fun σ σ' hf ht => ?_)
  · rw [wh_app] at hz ⊢
    rw [wh_cons] at hz
    simp [wh] at hz ⊢
    omega
  · obtain ⟨q1, q2, q3, c, q4, q5, q6⟩ := q_facts h1 h2 hf ht
    refine ⟨q1, q2, knows_of (by rw [q4]; simp) (fun i c' hc => ?_), acts_quit q4 q3 q5 q6 hl.line (by omega) (by omega) (by omega)⟩
    rw [q4] at hc
    match i, hc with
    | 0, hc => injection hc with hc; subst hc; exact ⟨113, by omega, by omega, .inr ⟨K, q5⟩⟩
theorem doesQ0 {K : Nat} {w : World} (h1 : 1 ≤ K) (h2 : K ≤ 20) (hl : Lok ls) (hk : ls.length < K) : Calls Tryz.prog 12 #[.string (qS K), .string (ba (wh ls)), .string (ba (wh ls)), .int .i64 0] w fun r w' => r = .returned (.bool true) ∧ Kp [] w w' := by
  have hz := hl.size
  have hn := hl.len
  refine does_v (st := 0) (ah := false) (script_q h1 h2) (by rw [ba_size]; omega) (by omega) (fun σ σ' hf ht => ?_)
  obtain ⟨q1, q2, q3, c, q4, q5, q6⟩ := q_facts h1 h2 hf ht
  refine ⟨q1, q2, knows_of (by rw [q4]; simp) (fun i c' hc => ?_), acts_noquit q4 q3 q5 hl.line (by omega) (by omega) (by omega)⟩
  rw [q4] at hc
  match i, hc with
  | 0, hc => injection hc with hc; subst hc; exact ⟨113, by omega, by omega, .inr ⟨K, q5⟩⟩

theorem doesCut {w : World} {A : List (List UInt8)} {M : List UInt8} (hl : Lok (A ++ [M])) (hM : M ≠ []) : Calls Tryz.prog 12 #[.string ⟨#[]⟩, .string (ba (wh A ++ M)), .string (ba (wh (A ++ [M]))), .int .i64 0] w fun r w' => r = .returned (.bool true) ∧ Kp [] w w' := by
  have hz := hl.size
  have hn := hl.len
  rw [List.length_append] at hn
  have e : wh (A ++ [M]) = told (fun _ L => L ++ [10]) 1 A ++ (M ++ [10]) := by rw [wh_app, told_wh]; simp [wh]
  have hz2 := hz
  rw [wh_app] at hz2
  simp only [List.length_append, wh_cons, List.length_cons] at hz2
  refine does_v (st := 0) (ah := false) (script_none ⟨#[]⟩ 5 (by kernel_rfl) (by decide +kernel)) (by rw [ba_size, List.length_append]; omega) (by omega) (fun σ σ' hf ht => ?_)
  obtain ⟨q1, q2, q3, q4, q5⟩ := none_facts hf ht
  have := does_none q4
  rw [show σ'.quiet = false by rw [q5]; kernel_rfl] at this
  refine ⟨q1, q2, q3, ?_⟩
  rw [e]
  exact acts_cut (tl := fun _ L => L ++ [10]) (ct := fun _ L => L.length + 1) this hl.line hM (by omega) (by rw [cnt_wh]; show _ + (M.length + 1) ≤ _; omega) (by rw [List.length_append]; omega)
end
end Go.Proofs.YtonnimbcekhbgaaGreatDoor
