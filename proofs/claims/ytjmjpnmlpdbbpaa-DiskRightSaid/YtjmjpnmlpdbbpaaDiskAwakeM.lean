/-
  Plain words for layer 3's fixed answer.
-/
import Derived.Test.YtjmjpnmlpdbbpaaDiskMath
import Derived.WalkKit
namespace Go.Proofs.Ytjmjpnmlpdbbpaa.disk
open Go.RowKit
set_option linter.unusedVariables false

/-- a new disk. -/
def newD (room : Int) : DiskD × Int := if 0 ≤ room ∧ room ≤ 65536 then (⟨[], room, -1, false⟩, 0) else (⟨[], 0, 0, false⟩, 1)

abbrev nA : ByteArray := ⟨#[97]⟩
abbrev nB : ByteArray := ⟨#[98]⟩
theorem aw0 : newD 9 = (⟨[], 9, -1, false⟩, 0) := by kernel_rfl
theorem aw1 : appendD ⟨[], 9, -1, false⟩ nA [120, 121, 122] = (⟨[⟨nA, [120, 121, 122], 0⟩], 9, -1, false⟩, 0) := by kernel_rfl
theorem aw2 : syncD ⟨[⟨nA, [120, 121, 122], 0⟩], 9, -1, false⟩ nA = (⟨[⟨nA, [120, 121, 122], 3⟩], 9, -1, false⟩, 0) := by kernel_rfl
theorem aw3 : appendD ⟨[⟨nA, [120, 121, 122], 3⟩], 9, -1, false⟩ nA [117, 118, 119] = (⟨[⟨nA, [120, 121, 122, 117, 118, 119], 3⟩], 9, -1, false⟩, 0) := by kernel_rfl
theorem aw4 : appendD ⟨[⟨nA, [120, 121, 122, 117, 118, 119], 3⟩], 9, -1, false⟩ nA [49, 50, 51, 52] = (⟨[⟨nA, [120, 121, 122, 117, 118, 119], 3⟩], 9, -1, false⟩, 6) := by kernel_rfl
theorem aw5 : backD ⟨[⟨nA, [120, 121, 122, 117, 118, 119], 3⟩], 9, -1, false⟩ [1] 0 = (⟨[⟨nA, [120, 121, 122, 117], 4⟩], 9, 0, false⟩, 0) := by kernel_rfl
theorem aw6 : readD ⟨[⟨nA, [120, 121, 122, 117], 4⟩], 9, 0, false⟩ nA = ([120, 121, 122, 117], 0) := by kernel_rfl
theorem aw7 : appendD ⟨[⟨nA, [120, 121, 122, 117], 4⟩], 9, 0, false⟩ nB [48] = (⟨[⟨nA, [120, 121, 122, 117], 4⟩, ⟨nB, [48], 0⟩], 9, 0, true⟩, 9) := by kernel_rfl
theorem aw8 : used [⟨nA, [120, 121, 122, 117], 4⟩, ⟨nB, [48], 0⟩] = 5 := by kernel_rfl
theorem aw9 : rightB ⟨[⟨nA, [120, 121, 122, 117], 4⟩, ⟨nB, [48], 0⟩], 9, 0, true⟩ = true := by kernel_rfl

end Go.Proofs.Ytjmjpnmlpdbbpaa.disk
