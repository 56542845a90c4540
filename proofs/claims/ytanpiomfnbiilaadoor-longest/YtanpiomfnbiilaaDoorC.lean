/- Reading a byte of a class, its items and its names: contracts for what can be read. -/
import Derived.Test.YtanpiomfnbiilaaDoorA
import Derived.Test.YtanpiomfnbiilaaDoorB
import Derived.Lib.Bytealg
namespace Go.Proofs.YtanpiomfnbiilaaDoor
open Go.RowKit

theorem run_index53 (s : ByteArray) (c : Int) (w : World) :
    (callFunc 59 #[.string s, .int .u8 c]).run Tryd.prog w = .ok (.value (.int .i64 (Lib.indexByte s.data.toList c.toNat.toUInt8))) w := by
  rw [run_callFunc_extern Tryd.func59 (by kernel_rfl) (by kernel_rfl) (by kernel_rfl) (e := Extern.BytealgIndexByte.indexByte) (by kernel_rfl), Lib.run_indexByteString]
  rfl

set_option maxHeartbeats 400000 in
theorem index_any (s : ByteArray) (c : Int) (w : World) :
    Calls Tryd.prog 53 #[.string s, .int .u8 c] w fun e w' => e = .returned (.int .i64 (Lib.indexByte s.data.toList c.toNat.toUInt8)) ∧ w' = w := by
  have h := run_index53
  go_enter Tryd.func53, Tryd.ntmps53
  go_wp2
  go_ret
  exact ⟨rfl, rfl⟩

theorem index_q (s : ByteArray) (c : Int) {v : Int} (h : Lib.indexByte s.data.toList c.toNat.toUInt8 = v) (w : World) (n : Nat) :
    Calls Tryd.prog 53 #[.string s, .int .u8 c] (w.drewN n) fun e w'' => e = .returned (.int .i64 v) ∧ ∃ m, w'' = w.drewN m := by
  subst h
  exact Calls.quiet_of_same (index_any s c _)

set_option maxHeartbeats 800000 in
theorem byteOf_plain {b : Nat} {src : ByteArray} {k g : Nat} (barred behind : ByteArray) {w : World} (hr : Rd w b src k g) (hk : k < src.size)
    (h92 : saw src k 92 = false) (h10 : saw src k 10 = false) (hbar : Lib.indexByte barred.data.toList src[k] = -1) :
    Calls Tryd.prog 46 #[.pointer (some ⟨b, 0, none⟩), .string barred, .string behind] w fun e w' => e = .returned (.int .u8 (src[k]).toNat) ∧ Rd w' b src (k + 1) g ∧ Kp [b] w w' := by
  go_enter Tryd.func46, Tryd.ntmps46
  go_wp2_with (go_at_call 33; refine (take_no 92 hr h92).mono ?_; rintro e w1 ⟨rfl, h1, h2⟩)
  have c0 := h1.c0
  have c1 := h1.c1
  have f1 := h1.free 1
  have hsm := h1.small
  have he : ((k : Int) == (src.size : Int)) = false := by simp; omega
  have hix : Lib.indexByte barred.data.toList ((src[k].toNat : Int)).toNat.toUInt8 = -1 := by simpa using hbar
  go_quiet (first | (go_at_call 28; exact ended_q h1 _) | (go_at_call 35; exact sees_q 10 h1 h10 _) | (go_at_call 53; exact index_q _ _ hix _ _))
  go_wp2
  go_quiet (fail)
  go_wp2
  go_ret
  exact ⟨rfl, ((h1.drewN _).step hk).drewN _, h2.trans ((Kp.drewN _ _ _).trans ((Kp.setCell _ _ (by simp)).trans (Kp.drewN _ _ _)))⟩
end Go.Proofs.YtanpiomfnbiilaaDoor
