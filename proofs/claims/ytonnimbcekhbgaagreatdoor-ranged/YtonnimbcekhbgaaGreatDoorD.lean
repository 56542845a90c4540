/- In place of the text on names: what it hands on where no name of a class is read; where a reader looks. -/
import Derived.Test.YtonnimbcekhbgaaGreatDoorBToC
namespace Go.Proofs.YtonnimbcekhbgaaGreatDoor
open Go.RowKit

/-- Something lies in memory (no name of a class is asked for). -/
structure Nm (w : World) : Prop where
  lt : 0 < w.heap.size
theorem Nm.keep {S : List Nat} {w w' : World} (h : Nm w) (k : Kp S w w') (_hn : 0 ∉ S) : Nm w' := ⟨Nat.lt_of_lt_of_le h.lt k.size⟩

/-- Where a reader looks. -/
def atOf (w : World) (b : Nat) : Nat := (intOf ((w.cell? ⟨b, 1, none⟩).getD undef)).toNat
theorem atOf_rd {w : World} {b : Nat} {src : ByteArray} {k g : Nat} (h : Rd w b src k g) : atOf w b = k := by simp [atOf, h.c1, intOf]
end Go.Proofs.YtonnimbcekhbgaaGreatDoor
