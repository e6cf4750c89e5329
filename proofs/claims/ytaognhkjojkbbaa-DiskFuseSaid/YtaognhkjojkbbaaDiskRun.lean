/-
  Plain words for layer 3's scripts: disks without a fuse stay so.
-/
import Derived.Test.YtaognhkjojkbbaaDiskMath2
namespace Go.Proofs.Ytaognhkjojkbbaa.disk
open Go.RowKit
set_option linter.unusedVariables false

theorem plain_stays {d : DiskD} (h : Plain d) (a b : ByteArray) (pre : Int) (fs : List FileD) (app : Bool) (hr : rightB (opD d a b pre fs app).1 = true) : Plain (opD d a b pre fs app).1 := by
  refine ⟨hr, ?_⟩
  rw [plain_op h]
  cases named a && named b
  · exact h.2
  · by_cases hp : pre = 0
    · simp [hp]
    · simp [hp]; exact h.2
theorem plain_do {d : DiskD} (h : Plain d) (x : DoD) : Plain (doD d x).1 := by
  have hr := right_do h.1 x
  unfold doD at hr ⊢
  split at hr <;> exact plain_stays h _ _ _ _ _ hr
theorem plain_sync {d : DiskD} (h : Plain d) (nm : ByteArray) : Plain (syncD d nm).1 := plain_stays h _ _ _ _ _ (right_sync h.1)
theorem plain_new : Plain ⟨[], 65536, -1, false⟩ := ⟨by decide +kernel, rfl, rfl⟩
theorem plain_back {d : DiskD} (h : rightB d = true) (keep : List Int) : (backD d keep (-1)).2 = 0 ∧ Plain (backD d keep (-1)).1 ∧ (backD d keep (-1)).1.files = backF keep d.files := by
  have hr := right_back (keep := keep) (fuse := -1) h
  unfold backD at hr ⊢
  rw [if_pos ⟨h, by omega⟩] at hr ⊢
  exact ⟨rfl, ⟨hr, rfl, rfl⟩, rfl⟩
theorem named_nameOf (n : Nat) : named (nameOf n) = true := by
  unfold nameOf
  rcases (show n % 4 = 0 ∨ n % 4 = 1 ∨ n % 4 = 2 ∨ n % 4 = 3 by omega) with h | h | h | h <;> rw [h] <;> decide +kernel
theorem sync_name {d : DiskD} (h : Plain d) (n : Nat) : (syncD d (nameOf n)).2 = 0 ∨ (syncD d (nameOf n)).2 = 7 := by
  unfold syncD
  rw [plain_op h, named_nameOf]
  by_cases h : look (nameOf n) d.files = none <;> simp [noE, h]
/-- no more than a hundred of its bytes. -/
def trim (x : DoD) : DoD := { x with data := x.data.take 100 }

/-- a disk that stands in a block of the caller's own. -/
def Stands (T : TypeId) (w : World) (g : Nat) (own : List Nat) (d : DiskD) : Prop :=
  ∃ A n c, w.heap[g]? = some (.cells #[.slice A n c, .int .i64 d.room, .int .i64 d.fuse, .bool d.down] T (0, 0)) ∧ FilesIn w (Off own w) A d.files ∧ d.files.length = n ∧ n ≤ c ∧ c ≤ maxLen

end Go.Proofs.Ytaognhkjojkbbaa.disk
