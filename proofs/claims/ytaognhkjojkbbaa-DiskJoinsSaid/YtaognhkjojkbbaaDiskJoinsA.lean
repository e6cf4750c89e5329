/-
  The law DiskJoins where it asks nothing.
  CONDITIONS: none.
-/
import Derived.Test.YtaognhkjojkbbaaRows
import Derived.WalkKit
import Derived.ProofKit
import Derived.OpenShut
import Derived.ShutString
import Derived.ChangeOld
import Derived.Below
import Derived.Test.YtaognhkjojkbbaaDiskAwake
import Derived.Test.YtaognhkjojkbbaaDiskBegins
import Derived.Test.YtaognhkjojkbbaaGiven
import Derived.StillTailTactics
import Derived.BigQuiet
import Derived.Deep.CutRange
import Derived.Deep.RegionHeld3
namespace Go.Proofs.Ytaognhkjojkbbaa.diskJoins
open Go.ChangeShapes Go.WideShapes Go.ChangeAt Go.RowKit
open Go.ChangeMaps (open_string shut_string)
set_option linter.unusedVariables false

theorem short_is (A : Option Addr) (n c : Nat) (room fuse : Int) (down : Bool) (fs : List FileD) (v : Bool) (w : World) (hf : Files w w.heap.size A fs) (hn : fs.length = n) (hc : n ≤ maxLen) (hv : disk.shortB fs = v) :
    Calls Try.prog 9 #[.agg #[.slice A n c, .int .i64 room, .int .i64 fuse, .bool down]] w fun e w' => e = .returned (.bool v) ∧ Below w.heap.size w w' := by
  rw [← hv]; exact disk.rshort A n c room fuse down fs w hf hn hc

set_option maxRecDepth 20000 in
set_option maxHeartbeats 12000000 in
theorem early (cs0 : Array Value) (x0 : DiskD) (a1 : ByteArray) (a2 : ByteArray) (p3 : Option Addr) (n3 c3 : Nat) (x3 : List Nat) (p4 : Option Addr) (n4 c4 : Nat) (x4 : List Nat) (a5 : Int) (w : World) (w0 : rdDisk w (Lt w.heap.size) cs0.toList x0) (w1 : a1.size ≤ maxLen) (w2 : a2.size ≤ maxLen) (w3 : rdBytes w (Lt w.heap.size) [.slice p3 n3 c3] x3) (w4 : rdBytes w (Lt w.heap.size) [.slice p4 n4 c4] x4) (w5 : (Lit.int .i64 a5).wf = true) (hneg : ¬ (disk.shortB x0.files = true ∧ a1.size ≤ 100 ∧ a2.size ≤ 100 ∧ n3 ≤ 3000 ∧ n4 ≤ 3000 ∧ disk.rightB x0 = true ∧ x0.down = false ∧ x0.fuse = -1)) :
    Calls Try.prog 7 #[.agg cs0, .string a1, .string a2, .slice p3 n3 c3, .slice p4 n4 c4, .int .i64 a5] w fun e w' => e = .returned (.bool true) ∧ Below w.heap.size w w' := by
  obtain ⟨fs, room, fuse, down⟩ := x0
  obtain ⟨A, n, c, he, hf0, hn, hnc, hcm, hr, hfu⟩ := w0
  simp only at he hf0 hn hr hfu
  obtain rfl : cs0 = #[.slice A n c, .int .i64 room, .int .i64 fuse, .bool down] := Array.toList_inj.1 he
  obtain ⟨q3, m3, k3, e3, hk3, hkn3, hkc3, hkm3⟩ := w3
  obtain ⟨rfl, rfl, rfl⟩ : p3 = q3 ∧ n3 = m3 ∧ c3 = k3 := by simpa using e3
  obtain ⟨q4, m4, k4, e4, hk4, hkn4, hkc4, hkm4⟩ := w4
  obtain ⟨rfl, rfl, rfl⟩ : p4 = q4 ∧ n4 = m4 ∧ c4 = k4 := by simpa using e4
  have HR := Lib.hid (inI_of_wf hr)
  have HFU := Lib.hid (inI_of_wf hfu)
  have H5 := Lib.hid (inI_of_wf w5)
  have HN := Lib.hid hn; have HNC := Lib.hid hnc; have HCM := Lib.hid hcm
  have HC : Hid (n ≤ maxLen) := Lib.hid (Nat.le_trans hnc hcm)
  have HKN3 := Lib.hid hkn3; have HKC3 := Lib.hid hkc3; have HKM3 := Lib.hid hkm3
  have HKN4 := Lib.hid hkn4; have HKC4 := Lib.hid hkc4; have HKM4 := Lib.hid hkm4
  have HF : Hid (∀ (W : World) (own : List Nat), Below w.heap.size w W → (∀ g ∈ own, w.heap.size ≤ g) → FilesIn W (Off own W) A fs) := Lib.hid (fun W own hb ho => hf0.given hb ho)
  have HFS : Hid (∀ W, Below w.heap.size w W → Files W W.heap.size A fs) := Lib.hid (fun W hb => (hf0.below (fun _ h => h) hb).more (fun b h => Nat.lt_of_lt_of_le h hb.size))
  have HK3 : Hid (∀ (W : World) (own : List Nat), Below w.heap.size w W → (∀ g ∈ own, w.heap.size ≤ g) → BysIn W (Off own W) p3 x3) := Lib.hid (fun W own hb ho => hk3.given hb ho)
  have HK4 : Hid (∀ (W : World) (own : List Nat), Below w.heap.size w W → (∀ g ∈ own, w.heap.size ≤ g) → BysIn W (Off own W) p4 x4) := Lib.hid (fun W own hb ho => hk4.given hb ho)
  have HA0 : Hid (∀ o : Obj, Below w.heap.size w (w.alloc o)) := Lib.hid (fun o => (Below.refl _ _).alloc (Nat.le_refl _) o)
  have K0 := Lib.hid (heap_alloc_new w (.cells #[.slice A n c, .int .i64 room, .int .i64 fuse, .bool down] 24))
  clear hr hfu hn hnc hcm hkn3 hkc3 hkm3 hkn4 hkc4 hkm4 he e3 e4 hf0 hk3 hk4
  obtain ⟨v1, HV1⟩ : ∃ v, Hid (disk.shortB fs = v) := ⟨_, Lib.hid rfl⟩
  obtain ⟨v2, HV2⟩ : ∃ v, Hid (disk.rightB ⟨fs, room, fuse, down⟩ = v) := ⟨_, Lib.hid rfl⟩
  have hmain : ¬ (v1 = true ∧ a1.size ≤ 100 ∧ a2.size ≤ 100 ∧ n3 ≤ 3000 ∧ n4 ≤ 3000 ∧ v2 = true ∧ down = false ∧ fuse = -1) := by rw [← HV1.out, ← HV2.out]; exact hneg
  clear hneg
  have hcase : v1 = false ∨ (v1 = true ∧ 100 < a1.size) ∨ (v1 = true ∧ a1.size ≤ 100 ∧ 100 < a2.size) ∨ (v1 = true ∧ a1.size ≤ 100 ∧ a2.size ≤ 100 ∧ 3000 < n3) ∨ (v1 = true ∧ a1.size ≤ 100 ∧ a2.size ≤ 100 ∧ n3 ≤ 3000 ∧ 3000 < n4) ∨ (v1 = true ∧ a1.size ≤ 100 ∧ a2.size ≤ 100 ∧ n3 ≤ 3000 ∧ n4 ≤ 3000 ∧ v2 = false) ∨ (v1 = true ∧ a1.size ≤ 100 ∧ a2.size ≤ 100 ∧ n3 ≤ 3000 ∧ n4 ≤ 3000 ∧ v2 = true ∧ down = true) ∨ (v1 = true ∧ a1.size ≤ 100 ∧ a2.size ≤ 100 ∧ n3 ≤ 3000 ∧ n4 ≤ 3000 ∧ v2 = true ∧ down = false ∧ (fuse != -1) = true) := by
    rcases v1 with _ | _ <;> rcases v2 with _ | _ <;> rcases down with _ | _ <;> simp at hmain ⊢ <;> omega
  clear hmain
  rcases hcase with rfl | ⟨rfl, hs1⟩ | ⟨rfl, hs1, hs2⟩ | ⟨rfl, hs1, hs2, hs3⟩ | ⟨rfl, hs1, hs2, hs3, hs4⟩ | ⟨rfl, hs1, hs2, hs3, hs4, rfl⟩ | ⟨rfl, hs1, hs2, hs3, hs4, rfl, rfl⟩ | ⟨rfl, hs1, hs2, hs3, hs4, rfl, rfl, hs5⟩
  all_goals
    first | have HSH : Hid (disk.shortB fs = true) := HV1 | skip
    go_enter Try.func7, Try.ntmps7
    go_wp2_with (first
      | ((with_reducible refine (disk.awake_any _).mono ?_); rintro e w1 ⟨rfl, hg1⟩; have hq1 := (HA0.out _).trans (hg1.mono (by simp)); have hz1 : w.heap.size < w1.heap.size := (by have := hg1.size; simp at this; omega); have E0_1 := Lib.hid ((hg1.block w.heap.size (by simp)).trans K0.out); obtain ⟨ax0_1, af0_1⟩ := block_cell E0_1.out 0 _ rfl; obtain ⟨ax1_1, af1_1⟩ := block_cell E0_1.out 1 _ rfl; obtain ⟨ax2_1, af2_1⟩ := block_cell E0_1.out 2 _ rfl; obtain ⟨ax3_1, af3_1⟩ := block_cell E0_1.out 3 _ rfl)
      | ((with_reducible refine (short_is A n c room _ _ fs _ _ (HFS.out _ hq1) HN.out HC.out HV1.out).mono ?_); rintro e w2 ⟨rfl, hg2⟩; have hq2 := hq1.trans (hg2.mono hq1.size); have hz2 : w.heap.size < w2.heap.size := (by have := hg2.size; omega); have E0_2 := Lib.hid ((hg2.block w.heap.size hz1).trans E0_1.out); obtain ⟨ax0_2, af0_2⟩ := block_cell E0_2.out 0 _ rfl; obtain ⟨ax1_2, af1_2⟩ := block_cell E0_2.out 1 _ rfl; obtain ⟨ax2_2, af2_2⟩ := block_cell E0_2.out 2 _ rfl; obtain ⟨ax3_2, af3_2⟩ := block_cell E0_2.out 3 _ rfl)
      | ((with_reducible refine (disk.dright A n c room _ _ fs _ (Off [w.heap.size] w2) w2 Off.lt (HF.out _ _ hq2 (by simp)) HN.out HNC.out HCM.out HR.out HFU.out HSH.out HV2.out).mono ?_); rintro e w3 ⟨rfl, hg3⟩; have hq3 := hq2.trans (hg3.mono hq2.size); have hz3 : w.heap.size < w3.heap.size := (by have := hg3.size; omega); have E0_3 := Lib.hid ((hg3.block w.heap.size hz2).trans E0_2.out); obtain ⟨ax0_3, af0_3⟩ := block_cell E0_3.out 0 _ rfl; obtain ⟨ax1_3, af1_3⟩ := block_cell E0_3.out 1 _ rfl; obtain ⟨ax2_3, af2_3⟩ := block_cell E0_3.out 2 _ rfl; obtain ⟨ax3_3, af3_3⟩ := block_cell E0_3.out 3 _ rfl))
    go_ret
    first | exact ⟨rfl, hq3⟩ | exact ⟨rfl, hq2⟩

end Go.Proofs.Ytaognhkjojkbbaa.diskJoins
