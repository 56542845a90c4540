/- (Without the law's own function.) The pattern that is found where a text stands: each byte that means something behind a backslash. -/
import Derived.Test.YtonnimbcekhbgaaGreatDoorFOToFZ
namespace Go.Proofs.YtonnimbcekhbgaaGreatDoor
open Go.RowKit

def specialB : ByteArray := ⟨#[92, 124, 42, 43, 63, 123, 125, 40, 41, 46, 94, 36, 91, 93]⟩
def isSpec (c : UInt8) : Bool := specialB.data.toList.contains c
/-- A byte as it is written in a pattern. -/
def quote1 (c : UInt8) : List UInt8 := if c = 10 then [92, 110] else if isSpec c = true then [92, c] else [c]
def quoteL (l : List UInt8) : ByteArray := ⟨(l.flatMap quote1).toArray⟩

theorem quoteL_snoc (l : List UInt8) (c : UInt8) : quoteL (l ++ [c]) = quoteL l ++ ⟨(quote1 c).toArray⟩ := by
  unfold quoteL
  apply ByteArray.ext
  simp [ByteArray.data_append]
theorem quoteL_size (l : List UInt8) : (quoteL l).size ≤ 2 * l.length := by
  show ((l.flatMap quote1).toArray).size ≤ _
  rw [List.size_toArray]
  induction l with
  | nil => simp
  | cons c l ih =>
    rw [List.flatMap_cons, List.length_append, List.length_cons]
    have : (quote1 c).length ≤ 2 := by unfold quote1; split <;> (try split) <;> simp
    omega
end Go.Proofs.YtonnimbcekhbgaaGreatDoor
