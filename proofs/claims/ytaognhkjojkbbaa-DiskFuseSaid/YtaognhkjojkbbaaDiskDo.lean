/-
  Contracts of layer 3's statements' own small functions: name, do.
-/
import Derived.Test.YtaognhkjojkbbaaDiskLaw
import Derived.Deep.RegionHeld3
import Derived.IntWalk
namespace Go.Proofs.Ytaognhkjojkbbaa.disk
open Go.RowKit
set_option linter.unusedVariables false
set_option linter.unusedSimpArgs false

theorem nameOf_size (n : Nat) : (nameOf n).size ≤ 100 := by show 1 ≤ 100; omega
/-- what a thing of a script does to a disk. -/
def doD (d : DiskD) (x : DoD) : DiskD × Int :=
  match x.kind % 6 with
  | 2 => syncD d (nameOf x.file)
  | 3 => renameD d (nameOf x.file) (nameOf x.to)
  | 4 => removeD d (nameOf x.file)
  | 5 => cutD d (nameOf x.file) x.n
  | _ => appendD d (nameOf x.file) x.data

theorem name_any (x : Nat) (hx : x < 256) (w : World) : Calls Try.prog 33 #[.int .u8 (x : Int)] w fun e w' => e = .returned (.string (nameOf x)) ∧ Below w.heap.size w w' := by
  have hcv : ∀ (W : World) (g : Nat) (y : Int), g = W.heap.size → 0 ≤ y → y < 256 → (convert 25 9 (.slice (some ⟨g, 0, none⟩) 1 1)).run Try.prog (W.alloc (.cells #[.int .u8 y] 5)) = .ok (.string (strB [y.toNat])) (W.alloc (.cells #[.int .u8 y] 5)) := fun W g y hg h0 h1 =>
    run_bys_string (B := W.heap.size + 1) (bs := [y.toNat]) (by
      subst hg
      refine ⟨fun z hz => ?_, fun hn => ⟨W.heap.size, 0, rfl, Nat.lt_succ_self _, fun j hj => ?_⟩⟩
      · rw [List.mem_singleton.1 hz]; exact (wf_u8 _).2 (by omega)
      · have : j = 0 := by simp [toI] at hj; omega
        subst this
        simp [toI]
        omega) rfl 25 5 9 Try.underlying25 Try.underlying5 Try.underlying9
  obtain ⟨m, hm⟩ : ∃ m, Hid (x % 4 = m) := ⟨_, Lib.hid rfl⟩
  have hm4 : m < 4 := by rw [← hm.out]; omega
  have hmi : (x : Int) % 4 = (m : Int) := by rw [← hm.out]; omega
  have HE : Hid (strB [97 + m] = nameOf x) := Lib.hid (by unfold nameOf; rw [hm.out]; rfl)
  have HC := fun W g hg => hcv W g (97 + (m : Int)) hg (by omega) (by omega)
  have hnn : (97 + (m : Int)).toNat = 97 + m := by omega
  rw [hnn] at HC
  clear hcv hnn
  go_enter Try.func33, Try.ntmps33
  go_wp2
  go_ret
  exact ⟨by first | rfl | (rw [HE.out]; rfl), (Below.refl _ _).alloc (Nat.le_refl _) _⟩

set_option maxHeartbeats 12000000 in
theorem do_any (A Ax : Option Addr) (n c nx cx : Nat) (room fuse : Int) (down : Bool) (fs : List FileD) (x : DoD) (r : DiskD × Int) (S : Nat → Prop) (w : World) (hS : ∀ b, S b → b < w.heap.size) (hf : FilesIn w S A fs) (hn : fs.length = n) (hnc : n ≤ c) (hcm : c ≤ maxLen) (hr : inI room) (hfu : inI fuse) (hsh : shortB fs = true)
    (h1 : x.kind < 256) (h2 : x.file < 256) (h3 : x.to < 256) (h4 : x.n < 256) (hb : BysIn w S Ax x.data) (hbn : x.data.length = nx) (hbc : nx ≤ cx) (hbm : cx ≤ maxLen) (hbl : nx ≤ 70000) (hv : doD ⟨fs, room, fuse, down⟩ x = r) :
    Calls Try.prog 32 #[.agg #[.slice A n c, .int .i64 room, .int .i64 fuse, .bool down], .agg #[.int .u8 (x.kind : Int), .int .u8 (x.file : Int), .int .u8 (x.to : Int), .int .u8 (x.n : Int), .slice Ax nx cx]] w (RetOp S w r) := by
  have HN := Lib.hid hn; have HNC := Lib.hid hnc; have HCM := Lib.hid hcm; have HSH := Lib.hid hsh; have HBN := Lib.hid hbn; have HBC := Lib.hid hbc; have HBM := Lib.hid hbm; have HBL := Lib.hid hbl
  clear hn hnc hcm hsh hbn hbc hbm hbl
  obtain ⟨W3, hW3⟩ : ∃ W3, Hid ((((w.alloc (.cells #[.slice A n c, .int .i64 room, .int .i64 fuse, .bool down] 24)).alloc (.cells #[.int .u8 (x.kind : Int), .int .u8 (x.file : Int), .int .u8 (x.to : Int), .int .u8 (x.n : Int), .slice Ax nx cx] 58)).alloc (.cells #[.slice none 0 0, .int .i64 0, .int .i64 0, .bool false] 24)) = W3) := ⟨_, Lib.hid rfl⟩
  have hq0 : Below w.heap.size w W3 := by rw [← hW3.out]; exact (((Below.refl _ _).alloc (Nat.le_refl _) _).alloc (by simp) _).alloc (by simp; omega) _
  have hz0 : w.heap.size + 3 ≤ W3.heap.size := by rw [← hW3.out]; simp
  have E00 : Hid (W3.heap[w.heap.size]? = some (.cells #[.slice A n c, .int .i64 room, .int .i64 fuse, .bool down] 24 (0, 0))) := Lib.hid (by
    rw [← hW3.out, Below.heap_alloc _ _ _ (by simp; omega), Below.heap_alloc _ _ _ (by simp)]; exact heap_alloc_new w _)
  have E10 : Hid (W3.heap[w.heap.size + 1]? = some (.cells #[.int .u8 (x.kind : Int), .int .u8 (x.file : Int), .int .u8 (x.to : Int), .int .u8 (x.n : Int), .slice Ax nx cx] 58 (0, 0))) := Lib.hid (by
    rw [← hW3.out, Below.heap_alloc _ _ _ (by simp)]; simpa using heap_alloc_new (w.alloc (.cells #[.slice A n c, .int .i64 room, .int .i64 fuse, .bool down] 24)) _)
  have E20 : Hid (W3.heap[w.heap.size + 1 + 1]? = some (.cells #[.slice none 0 0, .int .i64 0, .int .i64 0, .bool false] 24 (0, 0))) := Lib.hid (by
    rw [← hW3.out]; simpa using heap_alloc_new ((w.alloc (.cells #[.slice A n c, .int .i64 room, .int .i64 fuse, .bool down] 24)).alloc (.cells #[.int .u8 (x.kind : Int), .int .u8 (x.file : Int), .int .u8 (x.to : Int), .int .u8 (x.n : Int), .slice Ax nx cx] 58)) (.cells #[.slice none 0 0, .int .i64 0, .int .i64 0, .bool false] 24))
  have HQ0 := Lib.hid hq0
  have HZ0 := Lib.hid hz0
  clear hq0 hz0
  rcases (show x.kind % 6 = 2 ∨ x.kind % 6 = 3 ∨ x.kind % 6 = 4 ∨ x.kind % 6 = 5 ∨ x.kind % 6 = 0 ∨ x.kind % 6 = 1 by omega) with h6 | h6 | h6 | h6 | h6 | h6
  · have HV : Hid (syncD ⟨fs, room, fuse, down⟩ (nameOf x.file) = r) := Lib.hid (by rw [← hv]; unfold doD; simp only [h6])
    have h6i : (x.kind : Int) % 6 = 2 := by omega
    clear h6
    have HOP : Hid (∀ W, Below w.heap.size w W → Calls Try.prog 18 #[.agg #[.slice A n c, .int .i64 room, .int .i64 fuse, .bool down], .string (nameOf x.file)] W (RetOp S W r)) := Lib.hid (fun W h => dsync A n c room fuse down (nameOf x.file) fs r S W (fun b hb => by have := hS b hb; have := h.size; omega) (hf.below hS h) HN.out HNC.out HCM.out hr hfu HSH.out (nameOf_size _) HV.out)
    clear hv
    go_enter Try.func32, Try.ntmps32
    go_wp2
    have hq : Below w.heap.size w W3.drew := HQ0.out.drew
    have hz : w.heap.size + 3 ≤ W3.drew.heap.size := HZ0.out
    have E0 : Hid (W3.drew.heap[w.heap.size]? = _) := E00
    have E1 : Hid (W3.drew.heap[w.heap.size + 1]? = _) := E10
    have E2 : Hid (W3.drew.heap[w.heap.size + 1 + 1]? = _) := E20
    rw [← hW3.out] at hq hz E0 E1 E2
    have K0 := E0.out
    obtain ⟨ax0, af0⟩ := block_cell E0.out 0 _ rfl; obtain ⟨ax1, af1⟩ := block_cell E0.out 1 _ rfl; obtain ⟨ax2, af2⟩ := block_cell E0.out 2 _ rfl; obtain ⟨ax3, af3⟩ := block_cell E0.out 3 _ rfl; obtain ⟨bx0, bf0⟩ := block_cell E1.out 0 _ rfl; obtain ⟨bx1, bf1⟩ := block_cell E1.out 1 _ rfl; obtain ⟨bx2, bf2⟩ := block_cell E1.out 2 _ rfl; obtain ⟨bx3, bf3⟩ := block_cell E1.out 3 _ rfl; obtain ⟨bx4, bf4⟩ := block_cell E1.out 4 _ rfl
    clear K0
    go_region_held3 (fun w' => w'.cell? ⟨w.heap.size, 0, none⟩ = some (.slice A n c) ∧ w'.cell? ⟨w.heap.size, 1, none⟩ = some (.int .i64 room) ∧ w'.cell? ⟨w.heap.size, 2, none⟩ = some (.int .i64 fuse) ∧ w'.cell? ⟨w.heap.size, 3, none⟩ = some (.bool down) ∧ w'.cell? ⟨w.heap.size + 1, 1, none⟩ = some (.int .u8 (x.file : Int)))
      (first | exact ⟨ax0, ax1, ax2, ax3, bx1⟩ | (refine ⟨?_, ?_, ?_, ?_, ?_⟩ <;> simp; done) | exact ⟨(World.cell?_of_block (heap_set4 _ _ _ _ (by show w.heap.size ≠ w.heap.size + 1 + 1; omega))).trans ax0, (World.cell?_of_block (heap_set4 _ _ _ _ (by show w.heap.size ≠ w.heap.size + 1 + 1; omega))).trans ax1, (World.cell?_of_block (heap_set4 _ _ _ _ (by show w.heap.size ≠ w.heap.size + 1 + 1; omega))).trans ax2, (World.cell?_of_block (heap_set4 _ _ _ _ (by show w.heap.size ≠ w.heap.size + 1 + 1; omega))).trans ax3, (World.cell?_of_block (heap_set4 _ _ _ _ (by show w.heap.size + 1 ≠ w.heap.size + 1 + 1; omega))).trans bx1⟩)
      (first
      | (go_at_call 33; (first | refine Calls.mono (name_any x.file h2 _) ?_ | refine Calls.mono (name_any x.to h3 _) ?_); rintro e wn ⟨rfl, hgn⟩; have hq := hq.trans (hgn.mono hq.size); have E0 := Lib.hid ((hgn.block w.heap.size (by omega)).trans E0.out); have E1 := Lib.hid ((hgn.block (w.heap.size + 1) (by omega)).trans E1.out); have E2 := Lib.hid ((hgn.block (w.heap.size + 1 + 1) (by omega)).trans E2.out); have hz := Nat.le_trans hz hgn.size; obtain ⟨ax0, af0⟩ := block_cell E0.out 0 _ rfl; obtain ⟨ax1, af1⟩ := block_cell E0.out 1 _ rfl; obtain ⟨ax2, af2⟩ := block_cell E0.out 2 _ rfl; obtain ⟨ax3, af3⟩ := block_cell E0.out 3 _ rfl; obtain ⟨bx0, bf0⟩ := block_cell E1.out 0 _ rfl; obtain ⟨bx1, bf1⟩ := block_cell E1.out 1 _ rfl; obtain ⟨bx2, bf2⟩ := block_cell E1.out 2 _ rfl; obtain ⟨bx3, bf3⟩ := block_cell E1.out 3 _ rfl; obtain ⟨bx4, bf4⟩ := block_cell E1.out 4 _ rfl)
      | (go_at_call 18; refine Calls.mono (HOP.out _ hq) ?_; rintro e w5 ⟨A5, n5, c5, rfl, hr5, hl5, hm5, hc5, hg5⟩; have hq5 := hq.trans (hg5.mono hq.size); have hz5 := hg5.size; have E25 := Lib.hid ((hg5.block (w.heap.size + 1 + 1) (by omega)).trans E2.out); have E0 := Lib.hid ((hg5.block w.heap.size (by omega)).trans E0.out); have E1 := Lib.hid ((hg5.block (w.heap.size + 1) (by omega)).trans E1.out); obtain ⟨ax0, af0⟩ := block_cell E0.out 0 _ rfl; obtain ⟨ax1, af1⟩ := block_cell E0.out 1 _ rfl; obtain ⟨ax2, af2⟩ := block_cell E0.out 2 _ rfl; obtain ⟨ax3, af3⟩ := block_cell E0.out 3 _ rfl; obtain ⟨bx0, bf0⟩ := block_cell E1.out 0 _ rfl; obtain ⟨bx1, bf1⟩ := block_cell E1.out 1 _ rfl; obtain ⟨bx2, bf2⟩ := block_cell E1.out 2 _ rfl; obtain ⟨bx3, bf3⟩ := block_cell E1.out 3 _ rfl; obtain ⟨bx4, bf4⟩ := block_cell E1.out 4 _ rfl; obtain ⟨zx05, zf05⟩ := block_cell E25.out 0 _ rfl; obtain ⟨zx15, zf15⟩ := block_cell E25.out 1 _ rfl; obtain ⟨zx25, zf25⟩ := block_cell E25.out 2 _ rfl; obtain ⟨zx35, zf35⟩ := block_cell E25.out 3 _ rfl))
    all_goals
      go_wp2
      refine bodyPost_ret (v := .tuple #[.agg #[.slice A5 n5 c5, .int .i64 r.1.room, .int .i64 r.1.fuse, .bool r.1.down], .int .i64 r.2]) (by simp [results, Try.results32, go_sem, zx05, zx15, zx25, zx35]) rfl ?_
      exact ⟨A5, n5, c5, rfl, files_keep hr5 (fun b' h' => by
        rcases h' with h' | h'
        · have := hS b' h'; exact ⟨by omega, .inl h'⟩
        · exact ⟨by omega, .inr (by omega)⟩) _ _ _ _, hl5, hm5, hc5, below_set4 hq5 (by omega) _ _ _ _⟩
  · have HV : Hid (renameD ⟨fs, room, fuse, down⟩ (nameOf x.file) (nameOf x.to) = r) := Lib.hid (by rw [← hv]; unfold doD; simp only [h6])
    have h6i : (x.kind : Int) % 6 = 3 := by omega
    clear h6
    have HOP : Hid (∀ W, Below w.heap.size w W → Calls Try.prog 20 #[.agg #[.slice A n c, .int .i64 room, .int .i64 fuse, .bool down], .string (nameOf x.file), .string (nameOf x.to)] W (RetOp S W r)) := Lib.hid (fun W h => drename A n c room fuse down (nameOf x.file) (nameOf x.to) fs r S W (fun b hb => by have := hS b hb; have := h.size; omega) (hf.below hS h) HN.out HNC.out HCM.out hr hfu HSH.out (nameOf_size _) (nameOf_size _) HV.out)
    clear hv
    go_enter Try.func32, Try.ntmps32
    go_wp2
    have hq : Below w.heap.size w W3.drew := HQ0.out.drew
    have hz : w.heap.size + 3 ≤ W3.drew.heap.size := HZ0.out
    have E0 : Hid (W3.drew.heap[w.heap.size]? = _) := E00
    have E1 : Hid (W3.drew.heap[w.heap.size + 1]? = _) := E10
    have E2 : Hid (W3.drew.heap[w.heap.size + 1 + 1]? = _) := E20
    rw [← hW3.out] at hq hz E0 E1 E2
    have K0 := E0.out
    obtain ⟨ax0, af0⟩ := block_cell E0.out 0 _ rfl; obtain ⟨ax1, af1⟩ := block_cell E0.out 1 _ rfl; obtain ⟨ax2, af2⟩ := block_cell E0.out 2 _ rfl; obtain ⟨ax3, af3⟩ := block_cell E0.out 3 _ rfl; obtain ⟨bx0, bf0⟩ := block_cell E1.out 0 _ rfl; obtain ⟨bx1, bf1⟩ := block_cell E1.out 1 _ rfl; obtain ⟨bx2, bf2⟩ := block_cell E1.out 2 _ rfl; obtain ⟨bx3, bf3⟩ := block_cell E1.out 3 _ rfl; obtain ⟨bx4, bf4⟩ := block_cell E1.out 4 _ rfl
    clear K0
    go_region_held3 (fun w' => w'.cell? ⟨w.heap.size, 0, none⟩ = some (.slice A n c) ∧ w'.cell? ⟨w.heap.size, 1, none⟩ = some (.int .i64 room) ∧ w'.cell? ⟨w.heap.size, 2, none⟩ = some (.int .i64 fuse) ∧ w'.cell? ⟨w.heap.size, 3, none⟩ = some (.bool down) ∧ w'.cell? ⟨w.heap.size + 1, 1, none⟩ = some (.int .u8 (x.file : Int)) ∧ w'.cell? ⟨w.heap.size + 1, 2, none⟩ = some (.int .u8 (x.to : Int)))
      (first | exact ⟨ax0, ax1, ax2, ax3, bx1, bx2⟩ | (refine ⟨?_, ?_, ?_, ?_, ?_, ?_⟩ <;> simp; done) | exact ⟨(World.cell?_of_block (heap_set4 _ _ _ _ (by show w.heap.size ≠ w.heap.size + 1 + 1; omega))).trans ax0, (World.cell?_of_block (heap_set4 _ _ _ _ (by show w.heap.size ≠ w.heap.size + 1 + 1; omega))).trans ax1, (World.cell?_of_block (heap_set4 _ _ _ _ (by show w.heap.size ≠ w.heap.size + 1 + 1; omega))).trans ax2, (World.cell?_of_block (heap_set4 _ _ _ _ (by show w.heap.size ≠ w.heap.size + 1 + 1; omega))).trans ax3, (World.cell?_of_block (heap_set4 _ _ _ _ (by show w.heap.size + 1 ≠ w.heap.size + 1 + 1; omega))).trans bx1, (World.cell?_of_block (heap_set4 _ _ _ _ (by show w.heap.size + 1 ≠ w.heap.size + 1 + 1; omega))).trans bx2⟩)
      (first
      | (go_at_call 33; (first | refine Calls.mono (name_any x.file h2 _) ?_ | refine Calls.mono (name_any x.to h3 _) ?_); rintro e wn ⟨rfl, hgn⟩; have hq := hq.trans (hgn.mono hq.size); have E0 := Lib.hid ((hgn.block w.heap.size (by omega)).trans E0.out); have E1 := Lib.hid ((hgn.block (w.heap.size + 1) (by omega)).trans E1.out); have E2 := Lib.hid ((hgn.block (w.heap.size + 1 + 1) (by omega)).trans E2.out); have hz := Nat.le_trans hz hgn.size; obtain ⟨ax0, af0⟩ := block_cell E0.out 0 _ rfl; obtain ⟨ax1, af1⟩ := block_cell E0.out 1 _ rfl; obtain ⟨ax2, af2⟩ := block_cell E0.out 2 _ rfl; obtain ⟨ax3, af3⟩ := block_cell E0.out 3 _ rfl; obtain ⟨bx0, bf0⟩ := block_cell E1.out 0 _ rfl; obtain ⟨bx1, bf1⟩ := block_cell E1.out 1 _ rfl; obtain ⟨bx2, bf2⟩ := block_cell E1.out 2 _ rfl; obtain ⟨bx3, bf3⟩ := block_cell E1.out 3 _ rfl; obtain ⟨bx4, bf4⟩ := block_cell E1.out 4 _ rfl)
      | (go_at_call 20; refine Calls.mono (HOP.out _ hq) ?_; rintro e w5 ⟨A5, n5, c5, rfl, hr5, hl5, hm5, hc5, hg5⟩; have hq5 := hq.trans (hg5.mono hq.size); have hz5 := hg5.size; have E25 := Lib.hid ((hg5.block (w.heap.size + 1 + 1) (by omega)).trans E2.out); have E0 := Lib.hid ((hg5.block w.heap.size (by omega)).trans E0.out); have E1 := Lib.hid ((hg5.block (w.heap.size + 1) (by omega)).trans E1.out); obtain ⟨ax0, af0⟩ := block_cell E0.out 0 _ rfl; obtain ⟨ax1, af1⟩ := block_cell E0.out 1 _ rfl; obtain ⟨ax2, af2⟩ := block_cell E0.out 2 _ rfl; obtain ⟨ax3, af3⟩ := block_cell E0.out 3 _ rfl; obtain ⟨bx0, bf0⟩ := block_cell E1.out 0 _ rfl; obtain ⟨bx1, bf1⟩ := block_cell E1.out 1 _ rfl; obtain ⟨bx2, bf2⟩ := block_cell E1.out 2 _ rfl; obtain ⟨bx3, bf3⟩ := block_cell E1.out 3 _ rfl; obtain ⟨bx4, bf4⟩ := block_cell E1.out 4 _ rfl; obtain ⟨zx05, zf05⟩ := block_cell E25.out 0 _ rfl; obtain ⟨zx15, zf15⟩ := block_cell E25.out 1 _ rfl; obtain ⟨zx25, zf25⟩ := block_cell E25.out 2 _ rfl; obtain ⟨zx35, zf35⟩ := block_cell E25.out 3 _ rfl))
    all_goals
      go_wp2
      refine bodyPost_ret (v := .tuple #[.agg #[.slice A5 n5 c5, .int .i64 r.1.room, .int .i64 r.1.fuse, .bool r.1.down], .int .i64 r.2]) (by simp [results, Try.results32, go_sem, zx05, zx15, zx25, zx35]) rfl ?_
      exact ⟨A5, n5, c5, rfl, files_keep hr5 (fun b' h' => by
        rcases h' with h' | h'
        · have := hS b' h'; exact ⟨by omega, .inl h'⟩
        · exact ⟨by omega, .inr (by omega)⟩) _ _ _ _, hl5, hm5, hc5, below_set4 hq5 (by omega) _ _ _ _⟩
  · have HV : Hid (removeD ⟨fs, room, fuse, down⟩ (nameOf x.file) = r) := Lib.hid (by rw [← hv]; unfold doD; simp only [h6])
    have h6i : (x.kind : Int) % 6 = 4 := by omega
    clear h6
    have HOP : Hid (∀ W, Below w.heap.size w W → Calls Try.prog 22 #[.agg #[.slice A n c, .int .i64 room, .int .i64 fuse, .bool down], .string (nameOf x.file)] W (RetOp S W r)) := Lib.hid (fun W h => dremove A n c room fuse down (nameOf x.file) fs r S W (fun b hb => by have := hS b hb; have := h.size; omega) (hf.below hS h) HN.out HNC.out HCM.out hr hfu HSH.out (nameOf_size _) HV.out)
    clear hv
    go_enter Try.func32, Try.ntmps32
    go_wp2
    have hq : Below w.heap.size w W3.drew := HQ0.out.drew
    have hz : w.heap.size + 3 ≤ W3.drew.heap.size := HZ0.out
    have E0 : Hid (W3.drew.heap[w.heap.size]? = _) := E00
    have E1 : Hid (W3.drew.heap[w.heap.size + 1]? = _) := E10
    have E2 : Hid (W3.drew.heap[w.heap.size + 1 + 1]? = _) := E20
    rw [← hW3.out] at hq hz E0 E1 E2
    have K0 := E0.out
    obtain ⟨ax0, af0⟩ := block_cell E0.out 0 _ rfl; obtain ⟨ax1, af1⟩ := block_cell E0.out 1 _ rfl; obtain ⟨ax2, af2⟩ := block_cell E0.out 2 _ rfl; obtain ⟨ax3, af3⟩ := block_cell E0.out 3 _ rfl; obtain ⟨bx0, bf0⟩ := block_cell E1.out 0 _ rfl; obtain ⟨bx1, bf1⟩ := block_cell E1.out 1 _ rfl; obtain ⟨bx2, bf2⟩ := block_cell E1.out 2 _ rfl; obtain ⟨bx3, bf3⟩ := block_cell E1.out 3 _ rfl; obtain ⟨bx4, bf4⟩ := block_cell E1.out 4 _ rfl
    clear K0
    go_region_held3 (fun w' => w'.cell? ⟨w.heap.size, 0, none⟩ = some (.slice A n c) ∧ w'.cell? ⟨w.heap.size, 1, none⟩ = some (.int .i64 room) ∧ w'.cell? ⟨w.heap.size, 2, none⟩ = some (.int .i64 fuse) ∧ w'.cell? ⟨w.heap.size, 3, none⟩ = some (.bool down) ∧ w'.cell? ⟨w.heap.size + 1, 1, none⟩ = some (.int .u8 (x.file : Int)))
      (first | exact ⟨ax0, ax1, ax2, ax3, bx1⟩ | (refine ⟨?_, ?_, ?_, ?_, ?_⟩ <;> simp; done) | exact ⟨(World.cell?_of_block (heap_set4 _ _ _ _ (by show w.heap.size ≠ w.heap.size + 1 + 1; omega))).trans ax0, (World.cell?_of_block (heap_set4 _ _ _ _ (by show w.heap.size ≠ w.heap.size + 1 + 1; omega))).trans ax1, (World.cell?_of_block (heap_set4 _ _ _ _ (by show w.heap.size ≠ w.heap.size + 1 + 1; omega))).trans ax2, (World.cell?_of_block (heap_set4 _ _ _ _ (by show w.heap.size ≠ w.heap.size + 1 + 1; omega))).trans ax3, (World.cell?_of_block (heap_set4 _ _ _ _ (by show w.heap.size + 1 ≠ w.heap.size + 1 + 1; omega))).trans bx1⟩)
      (first
      | (go_at_call 33; (first | refine Calls.mono (name_any x.file h2 _) ?_ | refine Calls.mono (name_any x.to h3 _) ?_); rintro e wn ⟨rfl, hgn⟩; have hq := hq.trans (hgn.mono hq.size); have E0 := Lib.hid ((hgn.block w.heap.size (by omega)).trans E0.out); have E1 := Lib.hid ((hgn.block (w.heap.size + 1) (by omega)).trans E1.out); have E2 := Lib.hid ((hgn.block (w.heap.size + 1 + 1) (by omega)).trans E2.out); have hz := Nat.le_trans hz hgn.size; obtain ⟨ax0, af0⟩ := block_cell E0.out 0 _ rfl; obtain ⟨ax1, af1⟩ := block_cell E0.out 1 _ rfl; obtain ⟨ax2, af2⟩ := block_cell E0.out 2 _ rfl; obtain ⟨ax3, af3⟩ := block_cell E0.out 3 _ rfl; obtain ⟨bx0, bf0⟩ := block_cell E1.out 0 _ rfl; obtain ⟨bx1, bf1⟩ := block_cell E1.out 1 _ rfl; obtain ⟨bx2, bf2⟩ := block_cell E1.out 2 _ rfl; obtain ⟨bx3, bf3⟩ := block_cell E1.out 3 _ rfl; obtain ⟨bx4, bf4⟩ := block_cell E1.out 4 _ rfl)
      | (go_at_call 22; refine Calls.mono (HOP.out _ hq) ?_; rintro e w5 ⟨A5, n5, c5, rfl, hr5, hl5, hm5, hc5, hg5⟩; have hq5 := hq.trans (hg5.mono hq.size); have hz5 := hg5.size; have E25 := Lib.hid ((hg5.block (w.heap.size + 1 + 1) (by omega)).trans E2.out); have E0 := Lib.hid ((hg5.block w.heap.size (by omega)).trans E0.out); have E1 := Lib.hid ((hg5.block (w.heap.size + 1) (by omega)).trans E1.out); obtain ⟨ax0, af0⟩ := block_cell E0.out 0 _ rfl; obtain ⟨ax1, af1⟩ := block_cell E0.out 1 _ rfl; obtain ⟨ax2, af2⟩ := block_cell E0.out 2 _ rfl; obtain ⟨ax3, af3⟩ := block_cell E0.out 3 _ rfl; obtain ⟨bx0, bf0⟩ := block_cell E1.out 0 _ rfl; obtain ⟨bx1, bf1⟩ := block_cell E1.out 1 _ rfl; obtain ⟨bx2, bf2⟩ := block_cell E1.out 2 _ rfl; obtain ⟨bx3, bf3⟩ := block_cell E1.out 3 _ rfl; obtain ⟨bx4, bf4⟩ := block_cell E1.out 4 _ rfl; obtain ⟨zx05, zf05⟩ := block_cell E25.out 0 _ rfl; obtain ⟨zx15, zf15⟩ := block_cell E25.out 1 _ rfl; obtain ⟨zx25, zf25⟩ := block_cell E25.out 2 _ rfl; obtain ⟨zx35, zf35⟩ := block_cell E25.out 3 _ rfl))
    all_goals
      go_wp2
      refine bodyPost_ret (v := .tuple #[.agg #[.slice A5 n5 c5, .int .i64 r.1.room, .int .i64 r.1.fuse, .bool r.1.down], .int .i64 r.2]) (by simp [results, Try.results32, go_sem, zx05, zx15, zx25, zx35]) rfl ?_
      exact ⟨A5, n5, c5, rfl, files_keep hr5 (fun b' h' => by
        rcases h' with h' | h'
        · have := hS b' h'; exact ⟨by omega, .inl h'⟩
        · exact ⟨by omega, .inr (by omega)⟩) _ _ _ _, hl5, hm5, hc5, below_set4 hq5 (by omega) _ _ _ _⟩
  · have HV : Hid (cutD ⟨fs, room, fuse, down⟩ (nameOf x.file) x.n = r) := Lib.hid (by rw [← hv]; unfold doD; simp only [h6])
    have h6i : (x.kind : Int) % 6 = 5 := by omega
    clear h6
    have HOP : Hid (∀ W, Below w.heap.size w W → Calls Try.prog 24 #[.agg #[.slice A n c, .int .i64 room, .int .i64 fuse, .bool down], .string (nameOf x.file), .int .i64 (x.n : Int)] W (RetOp S W r)) := Lib.hid (fun W h => dcut A n c room fuse down (nameOf x.file) (x.n : Int) fs r S W (fun b hb => by have := hS b hb; have := h.size; omega) (hf.below hS h) HN.out HNC.out HCM.out hr hfu HSH.out (nameOf_size _) (by unfold inI; omega) HV.out)
    clear hv
    go_enter Try.func32, Try.ntmps32
    go_wp2
    have hq : Below w.heap.size w W3.drew := HQ0.out.drew
    have hz : w.heap.size + 3 ≤ W3.drew.heap.size := HZ0.out
    have E0 : Hid (W3.drew.heap[w.heap.size]? = _) := E00
    have E1 : Hid (W3.drew.heap[w.heap.size + 1]? = _) := E10
    have E2 : Hid (W3.drew.heap[w.heap.size + 1 + 1]? = _) := E20
    rw [← hW3.out] at hq hz E0 E1 E2
    have K0 := E0.out
    obtain ⟨ax0, af0⟩ := block_cell E0.out 0 _ rfl; obtain ⟨ax1, af1⟩ := block_cell E0.out 1 _ rfl; obtain ⟨ax2, af2⟩ := block_cell E0.out 2 _ rfl; obtain ⟨ax3, af3⟩ := block_cell E0.out 3 _ rfl; obtain ⟨bx0, bf0⟩ := block_cell E1.out 0 _ rfl; obtain ⟨bx1, bf1⟩ := block_cell E1.out 1 _ rfl; obtain ⟨bx2, bf2⟩ := block_cell E1.out 2 _ rfl; obtain ⟨bx3, bf3⟩ := block_cell E1.out 3 _ rfl; obtain ⟨bx4, bf4⟩ := block_cell E1.out 4 _ rfl
    clear K0
    have hwr : IntKind.i64.wrap (x.n : Int) = (x.n : Int) := IntWalk.i64_in _ (by omega)
    go_region_held3 (fun w' => w'.cell? ⟨w.heap.size, 0, none⟩ = some (.slice A n c) ∧ w'.cell? ⟨w.heap.size, 1, none⟩ = some (.int .i64 room) ∧ w'.cell? ⟨w.heap.size, 2, none⟩ = some (.int .i64 fuse) ∧ w'.cell? ⟨w.heap.size, 3, none⟩ = some (.bool down) ∧ w'.cell? ⟨w.heap.size + 1, 1, none⟩ = some (.int .u8 (x.file : Int)) ∧ w'.cell? ⟨w.heap.size + 1, 3, none⟩ = some (.int .u8 (x.n : Int)))
      (first | exact ⟨ax0, ax1, ax2, ax3, bx1, bx3⟩ | (refine ⟨?_, ?_, ?_, ?_, ?_, ?_⟩ <;> simp; done) | exact ⟨(World.cell?_of_block (heap_set4 _ _ _ _ (by show w.heap.size ≠ w.heap.size + 1 + 1; omega))).trans ax0, (World.cell?_of_block (heap_set4 _ _ _ _ (by show w.heap.size ≠ w.heap.size + 1 + 1; omega))).trans ax1, (World.cell?_of_block (heap_set4 _ _ _ _ (by show w.heap.size ≠ w.heap.size + 1 + 1; omega))).trans ax2, (World.cell?_of_block (heap_set4 _ _ _ _ (by show w.heap.size ≠ w.heap.size + 1 + 1; omega))).trans ax3, (World.cell?_of_block (heap_set4 _ _ _ _ (by show w.heap.size + 1 ≠ w.heap.size + 1 + 1; omega))).trans bx1, (World.cell?_of_block (heap_set4 _ _ _ _ (by show w.heap.size + 1 ≠ w.heap.size + 1 + 1; omega))).trans bx3⟩)
      (first
      | (go_at_call 33; (first | refine Calls.mono (name_any x.file h2 _) ?_ | refine Calls.mono (name_any x.to h3 _) ?_); rintro e wn ⟨rfl, hgn⟩; have hq := hq.trans (hgn.mono hq.size); have E0 := Lib.hid ((hgn.block w.heap.size (by omega)).trans E0.out); have E1 := Lib.hid ((hgn.block (w.heap.size + 1) (by omega)).trans E1.out); have E2 := Lib.hid ((hgn.block (w.heap.size + 1 + 1) (by omega)).trans E2.out); have hz := Nat.le_trans hz hgn.size; obtain ⟨ax0, af0⟩ := block_cell E0.out 0 _ rfl; obtain ⟨ax1, af1⟩ := block_cell E0.out 1 _ rfl; obtain ⟨ax2, af2⟩ := block_cell E0.out 2 _ rfl; obtain ⟨ax3, af3⟩ := block_cell E0.out 3 _ rfl; obtain ⟨bx0, bf0⟩ := block_cell E1.out 0 _ rfl; obtain ⟨bx1, bf1⟩ := block_cell E1.out 1 _ rfl; obtain ⟨bx2, bf2⟩ := block_cell E1.out 2 _ rfl; obtain ⟨bx3, bf3⟩ := block_cell E1.out 3 _ rfl; obtain ⟨bx4, bf4⟩ := block_cell E1.out 4 _ rfl)
      | (go_at_call 24; refine Calls.mono (HOP.out _ hq) ?_; rintro e w5 ⟨A5, n5, c5, rfl, hr5, hl5, hm5, hc5, hg5⟩; have hq5 := hq.trans (hg5.mono hq.size); have hz5 := hg5.size; have E25 := Lib.hid ((hg5.block (w.heap.size + 1 + 1) (by omega)).trans E2.out); have E0 := Lib.hid ((hg5.block w.heap.size (by omega)).trans E0.out); have E1 := Lib.hid ((hg5.block (w.heap.size + 1) (by omega)).trans E1.out); obtain ⟨ax0, af0⟩ := block_cell E0.out 0 _ rfl; obtain ⟨ax1, af1⟩ := block_cell E0.out 1 _ rfl; obtain ⟨ax2, af2⟩ := block_cell E0.out 2 _ rfl; obtain ⟨ax3, af3⟩ := block_cell E0.out 3 _ rfl; obtain ⟨bx0, bf0⟩ := block_cell E1.out 0 _ rfl; obtain ⟨bx1, bf1⟩ := block_cell E1.out 1 _ rfl; obtain ⟨bx2, bf2⟩ := block_cell E1.out 2 _ rfl; obtain ⟨bx3, bf3⟩ := block_cell E1.out 3 _ rfl; obtain ⟨bx4, bf4⟩ := block_cell E1.out 4 _ rfl; obtain ⟨zx05, zf05⟩ := block_cell E25.out 0 _ rfl; obtain ⟨zx15, zf15⟩ := block_cell E25.out 1 _ rfl; obtain ⟨zx25, zf25⟩ := block_cell E25.out 2 _ rfl; obtain ⟨zx35, zf35⟩ := block_cell E25.out 3 _ rfl))
    all_goals
      go_wp2
      refine bodyPost_ret (v := .tuple #[.agg #[.slice A5 n5 c5, .int .i64 r.1.room, .int .i64 r.1.fuse, .bool r.1.down], .int .i64 r.2]) (by simp [results, Try.results32, go_sem, zx05, zx15, zx25, zx35]) rfl ?_
      exact ⟨A5, n5, c5, rfl, files_keep hr5 (fun b' h' => by
        rcases h' with h' | h'
        · have := hS b' h'; exact ⟨by omega, .inl h'⟩
        · exact ⟨by omega, .inr (by omega)⟩) _ _ _ _, hl5, hm5, hc5, below_set4 hq5 (by omega) _ _ _ _⟩
  · have HV : Hid (appendD ⟨fs, room, fuse, down⟩ (nameOf x.file) x.data = r) := Lib.hid (by rw [← hv]; unfold doD; simp only [h6])
    have h6i : (x.kind : Int) % 6 = 0 := by omega
    clear h6
    have HOP : Hid (∀ W, Below w.heap.size w W → Calls Try.prog 16 #[.agg #[.slice A n c, .int .i64 room, .int .i64 fuse, .bool down], .string (nameOf x.file), .slice Ax nx cx] W (RetOp S W r)) := Lib.hid (fun W h => dappend A n c room fuse down (nameOf x.file) Ax nx cx x.data fs r S W (fun b hb => by have := hS b hb; have := h.size; omega) (hf.below hS h) HN.out HNC.out HCM.out hr hfu HSH.out (nameOf_size _) (hb.below hS h) HBN.out HBC.out HBM.out HBL.out HV.out)
    clear hv
    go_enter Try.func32, Try.ntmps32
    go_wp2
    have hq : Below w.heap.size w W3.drew := HQ0.out.drew
    have hz : w.heap.size + 3 ≤ W3.drew.heap.size := HZ0.out
    have E0 : Hid (W3.drew.heap[w.heap.size]? = _) := E00
    have E1 : Hid (W3.drew.heap[w.heap.size + 1]? = _) := E10
    have E2 : Hid (W3.drew.heap[w.heap.size + 1 + 1]? = _) := E20
    rw [← hW3.out] at hq hz E0 E1 E2
    have K0 := E0.out
    obtain ⟨ax0, af0⟩ := block_cell E0.out 0 _ rfl; obtain ⟨ax1, af1⟩ := block_cell E0.out 1 _ rfl; obtain ⟨ax2, af2⟩ := block_cell E0.out 2 _ rfl; obtain ⟨ax3, af3⟩ := block_cell E0.out 3 _ rfl; obtain ⟨bx0, bf0⟩ := block_cell E1.out 0 _ rfl; obtain ⟨bx1, bf1⟩ := block_cell E1.out 1 _ rfl; obtain ⟨bx2, bf2⟩ := block_cell E1.out 2 _ rfl; obtain ⟨bx3, bf3⟩ := block_cell E1.out 3 _ rfl; obtain ⟨bx4, bf4⟩ := block_cell E1.out 4 _ rfl
    clear K0
    go_region_held3 (fun w' => w'.cell? ⟨w.heap.size, 0, none⟩ = some (.slice A n c) ∧ w'.cell? ⟨w.heap.size, 1, none⟩ = some (.int .i64 room) ∧ w'.cell? ⟨w.heap.size, 2, none⟩ = some (.int .i64 fuse) ∧ w'.cell? ⟨w.heap.size, 3, none⟩ = some (.bool down) ∧ w'.cell? ⟨w.heap.size + 1, 1, none⟩ = some (.int .u8 (x.file : Int)) ∧ w'.cell? ⟨w.heap.size + 1, 4, none⟩ = some (.slice Ax nx cx))
      (first | exact ⟨ax0, ax1, ax2, ax3, bx1, bx4⟩ | (refine ⟨?_, ?_, ?_, ?_, ?_, ?_⟩ <;> simp; done) | exact ⟨(World.cell?_of_block (heap_set4 _ _ _ _ (by show w.heap.size ≠ w.heap.size + 1 + 1; omega))).trans ax0, (World.cell?_of_block (heap_set4 _ _ _ _ (by show w.heap.size ≠ w.heap.size + 1 + 1; omega))).trans ax1, (World.cell?_of_block (heap_set4 _ _ _ _ (by show w.heap.size ≠ w.heap.size + 1 + 1; omega))).trans ax2, (World.cell?_of_block (heap_set4 _ _ _ _ (by show w.heap.size ≠ w.heap.size + 1 + 1; omega))).trans ax3, (World.cell?_of_block (heap_set4 _ _ _ _ (by show w.heap.size + 1 ≠ w.heap.size + 1 + 1; omega))).trans bx1, (World.cell?_of_block (heap_set4 _ _ _ _ (by show w.heap.size + 1 ≠ w.heap.size + 1 + 1; omega))).trans bx4⟩)
      (first
      | (go_at_call 33; (first | refine Calls.mono (name_any x.file h2 _) ?_ | refine Calls.mono (name_any x.to h3 _) ?_); rintro e wn ⟨rfl, hgn⟩; have hq := hq.trans (hgn.mono hq.size); have E0 := Lib.hid ((hgn.block w.heap.size (by omega)).trans E0.out); have E1 := Lib.hid ((hgn.block (w.heap.size + 1) (by omega)).trans E1.out); have E2 := Lib.hid ((hgn.block (w.heap.size + 1 + 1) (by omega)).trans E2.out); have hz := Nat.le_trans hz hgn.size; obtain ⟨ax0, af0⟩ := block_cell E0.out 0 _ rfl; obtain ⟨ax1, af1⟩ := block_cell E0.out 1 _ rfl; obtain ⟨ax2, af2⟩ := block_cell E0.out 2 _ rfl; obtain ⟨ax3, af3⟩ := block_cell E0.out 3 _ rfl; obtain ⟨bx0, bf0⟩ := block_cell E1.out 0 _ rfl; obtain ⟨bx1, bf1⟩ := block_cell E1.out 1 _ rfl; obtain ⟨bx2, bf2⟩ := block_cell E1.out 2 _ rfl; obtain ⟨bx3, bf3⟩ := block_cell E1.out 3 _ rfl; obtain ⟨bx4, bf4⟩ := block_cell E1.out 4 _ rfl)
      | (go_at_call 16; refine Calls.mono (HOP.out _ hq) ?_; rintro e w5 ⟨A5, n5, c5, rfl, hr5, hl5, hm5, hc5, hg5⟩; have hq5 := hq.trans (hg5.mono hq.size); have hz5 := hg5.size; have E25 := Lib.hid ((hg5.block (w.heap.size + 1 + 1) (by omega)).trans E2.out); have E0 := Lib.hid ((hg5.block w.heap.size (by omega)).trans E0.out); have E1 := Lib.hid ((hg5.block (w.heap.size + 1) (by omega)).trans E1.out); obtain ⟨ax0, af0⟩ := block_cell E0.out 0 _ rfl; obtain ⟨ax1, af1⟩ := block_cell E0.out 1 _ rfl; obtain ⟨ax2, af2⟩ := block_cell E0.out 2 _ rfl; obtain ⟨ax3, af3⟩ := block_cell E0.out 3 _ rfl; obtain ⟨bx0, bf0⟩ := block_cell E1.out 0 _ rfl; obtain ⟨bx1, bf1⟩ := block_cell E1.out 1 _ rfl; obtain ⟨bx2, bf2⟩ := block_cell E1.out 2 _ rfl; obtain ⟨bx3, bf3⟩ := block_cell E1.out 3 _ rfl; obtain ⟨bx4, bf4⟩ := block_cell E1.out 4 _ rfl; obtain ⟨zx05, zf05⟩ := block_cell E25.out 0 _ rfl; obtain ⟨zx15, zf15⟩ := block_cell E25.out 1 _ rfl; obtain ⟨zx25, zf25⟩ := block_cell E25.out 2 _ rfl; obtain ⟨zx35, zf35⟩ := block_cell E25.out 3 _ rfl))
    all_goals
      go_wp2
      refine bodyPost_ret (v := .tuple #[.agg #[.slice A5 n5 c5, .int .i64 r.1.room, .int .i64 r.1.fuse, .bool r.1.down], .int .i64 r.2]) (by simp [results, Try.results32, go_sem, zx05, zx15, zx25, zx35]) rfl ?_
      exact ⟨A5, n5, c5, rfl, files_keep hr5 (fun b' h' => by
        rcases h' with h' | h'
        · have := hS b' h'; exact ⟨by omega, .inl h'⟩
        · exact ⟨by omega, .inr (by omega)⟩) _ _ _ _, hl5, hm5, hc5, below_set4 hq5 (by omega) _ _ _ _⟩
  · have HV : Hid (appendD ⟨fs, room, fuse, down⟩ (nameOf x.file) x.data = r) := Lib.hid (by rw [← hv]; unfold doD; simp only [h6])
    have h6i : (x.kind : Int) % 6 = 1 := by omega
    clear h6
    have HOP : Hid (∀ W, Below w.heap.size w W → Calls Try.prog 16 #[.agg #[.slice A n c, .int .i64 room, .int .i64 fuse, .bool down], .string (nameOf x.file), .slice Ax nx cx] W (RetOp S W r)) := Lib.hid (fun W h => dappend A n c room fuse down (nameOf x.file) Ax nx cx x.data fs r S W (fun b hb => by have := hS b hb; have := h.size; omega) (hf.below hS h) HN.out HNC.out HCM.out hr hfu HSH.out (nameOf_size _) (hb.below hS h) HBN.out HBC.out HBM.out HBL.out HV.out)
    clear hv
    go_enter Try.func32, Try.ntmps32
    go_wp2
    have hq : Below w.heap.size w W3.drew := HQ0.out.drew
    have hz : w.heap.size + 3 ≤ W3.drew.heap.size := HZ0.out
    have E0 : Hid (W3.drew.heap[w.heap.size]? = _) := E00
    have E1 : Hid (W3.drew.heap[w.heap.size + 1]? = _) := E10
    have E2 : Hid (W3.drew.heap[w.heap.size + 1 + 1]? = _) := E20
    rw [← hW3.out] at hq hz E0 E1 E2
    have K0 := E0.out
    obtain ⟨ax0, af0⟩ := block_cell E0.out 0 _ rfl; obtain ⟨ax1, af1⟩ := block_cell E0.out 1 _ rfl; obtain ⟨ax2, af2⟩ := block_cell E0.out 2 _ rfl; obtain ⟨ax3, af3⟩ := block_cell E0.out 3 _ rfl; obtain ⟨bx0, bf0⟩ := block_cell E1.out 0 _ rfl; obtain ⟨bx1, bf1⟩ := block_cell E1.out 1 _ rfl; obtain ⟨bx2, bf2⟩ := block_cell E1.out 2 _ rfl; obtain ⟨bx3, bf3⟩ := block_cell E1.out 3 _ rfl; obtain ⟨bx4, bf4⟩ := block_cell E1.out 4 _ rfl
    clear K0
    go_region_held3 (fun w' => w'.cell? ⟨w.heap.size, 0, none⟩ = some (.slice A n c) ∧ w'.cell? ⟨w.heap.size, 1, none⟩ = some (.int .i64 room) ∧ w'.cell? ⟨w.heap.size, 2, none⟩ = some (.int .i64 fuse) ∧ w'.cell? ⟨w.heap.size, 3, none⟩ = some (.bool down) ∧ w'.cell? ⟨w.heap.size + 1, 1, none⟩ = some (.int .u8 (x.file : Int)) ∧ w'.cell? ⟨w.heap.size + 1, 4, none⟩ = some (.slice Ax nx cx))
      (first | exact ⟨ax0, ax1, ax2, ax3, bx1, bx4⟩ | (refine ⟨?_, ?_, ?_, ?_, ?_, ?_⟩ <;> simp; done) | exact ⟨(World.cell?_of_block (heap_set4 _ _ _ _ (by show w.heap.size ≠ w.heap.size + 1 + 1; omega))).trans ax0, (World.cell?_of_block (heap_set4 _ _ _ _ (by show w.heap.size ≠ w.heap.size + 1 + 1; omega))).trans ax1, (World.cell?_of_block (heap_set4 _ _ _ _ (by show w.heap.size ≠ w.heap.size + 1 + 1; omega))).trans ax2, (World.cell?_of_block (heap_set4 _ _ _ _ (by show w.heap.size ≠ w.heap.size + 1 + 1; omega))).trans ax3, (World.cell?_of_block (heap_set4 _ _ _ _ (by show w.heap.size + 1 ≠ w.heap.size + 1 + 1; omega))).trans bx1, (World.cell?_of_block (heap_set4 _ _ _ _ (by show w.heap.size + 1 ≠ w.heap.size + 1 + 1; omega))).trans bx4⟩)
      (first
      | (go_at_call 33; (first | refine Calls.mono (name_any x.file h2 _) ?_ | refine Calls.mono (name_any x.to h3 _) ?_); rintro e wn ⟨rfl, hgn⟩; have hq := hq.trans (hgn.mono hq.size); have E0 := Lib.hid ((hgn.block w.heap.size (by omega)).trans E0.out); have E1 := Lib.hid ((hgn.block (w.heap.size + 1) (by omega)).trans E1.out); have E2 := Lib.hid ((hgn.block (w.heap.size + 1 + 1) (by omega)).trans E2.out); have hz := Nat.le_trans hz hgn.size; obtain ⟨ax0, af0⟩ := block_cell E0.out 0 _ rfl; obtain ⟨ax1, af1⟩ := block_cell E0.out 1 _ rfl; obtain ⟨ax2, af2⟩ := block_cell E0.out 2 _ rfl; obtain ⟨ax3, af3⟩ := block_cell E0.out 3 _ rfl; obtain ⟨bx0, bf0⟩ := block_cell E1.out 0 _ rfl; obtain ⟨bx1, bf1⟩ := block_cell E1.out 1 _ rfl; obtain ⟨bx2, bf2⟩ := block_cell E1.out 2 _ rfl; obtain ⟨bx3, bf3⟩ := block_cell E1.out 3 _ rfl; obtain ⟨bx4, bf4⟩ := block_cell E1.out 4 _ rfl)
      | (go_at_call 16; refine Calls.mono (HOP.out _ hq) ?_; rintro e w5 ⟨A5, n5, c5, rfl, hr5, hl5, hm5, hc5, hg5⟩; have hq5 := hq.trans (hg5.mono hq.size); have hz5 := hg5.size; have E25 := Lib.hid ((hg5.block (w.heap.size + 1 + 1) (by omega)).trans E2.out); have E0 := Lib.hid ((hg5.block w.heap.size (by omega)).trans E0.out); have E1 := Lib.hid ((hg5.block (w.heap.size + 1) (by omega)).trans E1.out); obtain ⟨ax0, af0⟩ := block_cell E0.out 0 _ rfl; obtain ⟨ax1, af1⟩ := block_cell E0.out 1 _ rfl; obtain ⟨ax2, af2⟩ := block_cell E0.out 2 _ rfl; obtain ⟨ax3, af3⟩ := block_cell E0.out 3 _ rfl; obtain ⟨bx0, bf0⟩ := block_cell E1.out 0 _ rfl; obtain ⟨bx1, bf1⟩ := block_cell E1.out 1 _ rfl; obtain ⟨bx2, bf2⟩ := block_cell E1.out 2 _ rfl; obtain ⟨bx3, bf3⟩ := block_cell E1.out 3 _ rfl; obtain ⟨bx4, bf4⟩ := block_cell E1.out 4 _ rfl; obtain ⟨zx05, zf05⟩ := block_cell E25.out 0 _ rfl; obtain ⟨zx15, zf15⟩ := block_cell E25.out 1 _ rfl; obtain ⟨zx25, zf25⟩ := block_cell E25.out 2 _ rfl; obtain ⟨zx35, zf35⟩ := block_cell E25.out 3 _ rfl))
    all_goals
      go_wp2
      refine bodyPost_ret (v := .tuple #[.agg #[.slice A5 n5 c5, .int .i64 r.1.room, .int .i64 r.1.fuse, .bool r.1.down], .int .i64 r.2]) (by simp [results, Try.results32, go_sem, zx05, zx15, zx25, zx35]) rfl ?_
      exact ⟨A5, n5, c5, rfl, files_keep hr5 (fun b' h' => by
        rcases h' with h' | h'
        · have := hS b' h'; exact ⟨by omega, .inl h'⟩
        · exact ⟨by omega, .inr (by omega)⟩) _ _ _ _, hl5, hm5, hc5, below_set4 hq5 (by omega) _ _ _ _⟩

end Go.Proofs.Ytaognhkjojkbbaa.disk
