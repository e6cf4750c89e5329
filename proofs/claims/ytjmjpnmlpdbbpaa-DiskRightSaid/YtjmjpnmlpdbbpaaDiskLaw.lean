/-
  Contracts of layer 3's statements' own small functions: name, begins; of disks that stay short.
-/
import Derived.Test.YtjmjpnmlpdbbpaaDiskImpl
import Derived.Test.YtjmjpnmlpdbbpaaDiskRef4
import Derived.Test.YtjmjpnmlpdbbpaaDo
namespace Go.Proofs.Ytjmjpnmlpdbbpaa.disk
open Go.RowKit
set_option linter.unusedVariables false

theorem short_iff {fs : List FileD} : shortB fs = true ↔ fs.length ≤ 70 ∧ (∀ f ∈ fs, f.data.length ≤ 70000 ∧ f.name.size ≤ 100) ∧ used fs ≤ 70000 := by
  unfold shortB shortFile
  simp only [Bool.and_eq_true, decide_eq_true_eq, List.all_eq_true, and_assoc]
theorem named_size {s : ByteArray} (h : named s = true) : s.size ≤ 16 := by
  unfold named at h
  simp only [Bool.and_eq_true, decide_eq_true_eq] at h
  exact h.2
theorem ok_short {room : Int} {fs : List FileD} (h : FilesOk room fs) (hr : room ≤ 65536) : shortB fs = true := by
  obtain ⟨h1, h2, h3, h4⟩ := h
  rw [short_iff]
  refine ⟨by omega, fun f hf => ?_, by omega⟩
  have := (file_iff f).1 (h2 f hf)
  have := named_size this.1
  exact ⟨by omega, by omega⟩
theorem right_short {d : DiskD} (h : rightB d = true) : shortB d.files = true := ok_short (right_files h) ((right_iff d).1 h).1.2
theorem right_room {d : DiskD} (h : rightB d = true) : inI d.room := by
  have := ((right_iff d).1 h).1
  unfold inI; omega

/-- a file's name in a script: one of four letters. -/
def nameOf (n : Nat) : ByteArray := ⟨#[UInt8.ofNat (97 + n % 4)]⟩

end Go.Proofs.Ytjmjpnmlpdbbpaa.disk
