/-
  Words of the sums' contracts, over no function.
-/
import Derived.Test.YtbahlgijiglbdaaRows
import Derived.Test.YtbahlgijiglbdaaBytes
import Derived.Test.YtbahlgijiglbdaaCrcMath
namespace Go.Proofs.Ytbahlgijiglbdaa.crc
open Go.RowKit
set_option linter.unusedVariables false

theorem drop_at {bs : List Nat} {k : Nat} {x : Nat} (h : bs[k]? = some x) : bs.drop k = x :: bs.drop (k + 1) := by
  obtain ⟨hk, rfl⟩ := List.getElem?_eq_some_iff.1 h
  rw [List.drop_eq_getElem_cons hk]
theorem bytes_step {bs : List Nat} {k x n : Nat} (h : bs[k]? = some x) : bytes n (bs.drop k) = bytes (byte n x) (bs.drop (k + 1)) := by rw [drop_at h]; rfl

theorem ret32 {a b : Nat} (h : a = b) : Ending.returned (.int .u32 (a : Int)) = .returned (.int .u32 (b : Int)) := by rw [h]

end Go.Proofs.Ytbahlgijiglbdaa.crc
