/-
  How api's files and disks read, over this program's own types.
-/
import Derived.Test.YtjmjpnmlpdbbpaaRows
import Derived.Test.YtjmjpnmlpdbbpaaDisk
namespace Go.Proofs.Ytjmjpnmlpdbbpaa
open Go.RowKit
set_option linter.unusedVariables false

theorem of_file : OfTrod Try.prog 51 rdFile := fun H enc w fuel cs x h => by
  have hl := struct_len Try.underlying51 h
  rw [show Try.prog.cellsOf 51 = 3 by kernel_rfl] at hl
  obtain ⟨s, e0, h0⟩ := of_field Try.underlying51 h 0 _ rfl 1 (by kernel_rfl) (of_str Try.underlying9)
  obtain ⟨bs, A, n, c, e1, h1⟩ := of_field Try.underlying51 h 1 _ rfl 1 (by kernel_rfl) (of_bytes Try.underlying25 Try.underlying5 (by kernel_rfl))
  obtain ⟨z, e2, h2⟩ := of_field Try.underlying51 h 2 _ rfl 1 (by kernel_rfl) (of_int Try.underlying3)
  match cs, hl with
  | [c0, c1, c2], _ =>
    simp at e0 e1 e2
    subst e0 e1 e2
    exact ⟨⟨s, bs, z⟩, A, n, c, rfl, h0, h1.1, h1.2.1, h1.2.2.1, h1.2.2.2, h2⟩

theorem of_disk : OfTrod Try.prog 24 rdDisk := fun H enc w fuel cs x h => by
  have hl := struct_len Try.underlying24 h
  rw [show Try.prog.cellsOf 24 = 4 by kernel_rfl] at hl
  obtain ⟨fs, A, n, c, e0, h0⟩ := of_field Try.underlying24 h 0 _ rfl 1 (by kernel_rfl) (of_slice of_file Try.underlying22 (size := 3) (by kernel_rfl) (by decide))
  obtain ⟨r, e1, h1⟩ := of_field Try.underlying24 h 1 _ rfl 1 (by kernel_rfl) (of_int Try.underlying3)
  obtain ⟨f, e2, h2⟩ := of_field Try.underlying24 h 2 _ rfl 1 (by kernel_rfl) (of_int Try.underlying3)
  obtain ⟨b, e3⟩ := of_field Try.underlying24 h 3 _ rfl 1 (by kernel_rfl) (of_bool Try.underlying4)
  match cs, hl with
  | [c0, c1, c2, c3], _ =>
    simp [rdBool] at e0 e1 e2 e3
    subst e0 e1 e2 e3
    exact ⟨⟨fs, r, f, b⟩, A, n, c, rfl, h0.1, h0.2.1, h0.2.2.1, h0.2.2.2, h1, h2⟩

end Go.Proofs.Ytjmjpnmlpdbbpaa
