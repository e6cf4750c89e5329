/-
  Contracts of package disk: Right, New, what stands against an operation.
-/
import Derived.Test.YtjmjpnmlpdbbpaaDiskImpl1
namespace Go.Proofs.Ytjmjpnmlpdbbpaa.disk
open Go.RowKit
set_option linter.unusedVariables false

theorem dright (A : Option Addr) (n c : Nat) (room fuse : Int) (down : Bool) (fs : List FileD) (v : Bool) (S : Nat → Prop) (w : World) (hS : ∀ b, S b → b < w.heap.size) (hf : FilesIn w S A fs) (hn : fs.length = n) (hnc : n ≤ c) (hcm : c ≤ maxLen) (hr : inI room) (hfu : inI fuse) (hsh : shortB fs = true) (hv : rightB ⟨fs, room, fuse, down⟩ = v) :
    Calls Try.prog 10 #[.agg #[.slice A n c, .int .i64 room, .int .i64 fuse, .bool down]] w fun e w' => e = .returned (.bool v) ∧ Below w.heap.size w w' :=
  dright0 A n c room fuse down fs v S w hS hf hn hnc hcm hr hfu (by have := (used_short hsh).1; omega) hv

theorem size_two (w : World) (o1 o2 : Obj) : ((w.alloc o1).alloc o2).heap.size = w.heap.size + 2 := by simp
theorem two_blocks (w : World) (c1 c2 : Array Value) (t1 t2 : TypeId) : ((w.alloc (.cells c1 t1)).alloc (.cells c2 t2)).heap[w.heap.size]? = some (.cells c1 t1 (0, 0)) ∧ ((w.alloc (.cells c1 t1)).alloc (.cells c2 t2)).heap[w.heap.size + 1]? = some (.cells c2 t2 (0, 0)) :=
  ⟨by rw [Below.heap_alloc _ _ _ (by simp)]; exact heap_alloc_new w _, by simpa using heap_alloc_new (w.alloc (.cells c1 t1)) (.cells c2 t2)⟩

set_option maxHeartbeats 4000000 in
theorem dnew (room : Int) (r : DiskD × Int) (S : Nat → Prop) (w : World) (hr : inI room) (hv : newD room = r) :
    Calls Try.prog 14 #[.int .i64 room] w (RetOp S w r) := by
  have HV := Lib.hid hv
  clear hv
  obtain ⟨k0, k1⟩ := two_blocks w #[.slice none 0 0, .int .i64 0, .int .i64 0, .bool false] #[.slice none 0 0, .int .i64 room, .int .i64 (-1), .bool false] 24 24
  have K0 := Lib.hid k0
  have K1 := Lib.hid k1
  clear k0 k1
  have HB : Hid (∀ o1 o2, Below w.heap.size w ((w.alloc o1).alloc o2)) := Lib.hid (fun o1 o2 => ((Below.refl _ _).alloc (Nat.le_refl _) o1).alloc (by simp) o2)
  by_cases h : 0 ≤ room ∧ room ≤ 65536
  · have HR : Hid (rightB ⟨[], room, -1, false⟩ = true) := Lib.hid (by rw [right_code]; simp [h, used, okFrom])
    have HE : Hid (r = (⟨[], room, -1, false⟩, 0)) := Lib.hid (by rw [← HV.out]; unfold newD; rw [if_pos h])
    clear h
    go_enter Try.func14, Try.ntmps14
    go_wp2_with ((with_reducible refine (dright0 none 0 0 room (-1) false [] true (fun _ => False) _ (fun _ h => h.elim) (Files.nil _ _ _) rfl (Nat.le_refl _) (by unfold maxLen; omega) hr (by unfold inI; omega) (by simp [used]) HR.out).mono ?_); rintro e w1 ⟨rfl, hg⟩; have hgw := (HB.out _ _).trans (hg.mono (by rw [size_two]; omega)); have hs1 : w.heap.size + 2 ≤ w1.heap.size := (by have := hg.size; rw [size_two] at this; omega); have E0 := Lib.hid ((hg.block w.heap.size (by rw [size_two]; omega)).trans K0.out); have E1 := Lib.hid ((hg.block (w.heap.size + 1) (by rw [size_two]; omega)).trans K1.out); obtain ⟨x0, f0⟩ := block_cell E0.out 0 _ rfl; obtain ⟨x1, f1⟩ := block_cell E0.out 1 _ rfl; obtain ⟨x2, f2⟩ := block_cell E0.out 2 _ rfl; obtain ⟨x3, f3⟩ := block_cell E0.out 3 _ rfl; obtain ⟨y0, g0⟩ := block_cell E1.out 0 _ rfl; obtain ⟨y1, g1⟩ := block_cell E1.out 1 _ rfl; obtain ⟨y2, g2⟩ := block_cell E1.out 2 _ rfl; obtain ⟨y3, g3⟩ := block_cell E1.out 3 _ rfl)
    refine bodyPost_ret (v := .tuple #[.agg #[.slice none 0 0, .int .i64 room, .int .i64 (-1), .bool false], .int .i64 0]) (by simp [results, Try.results14, go_sem, x0, x1, x2, x3]) rfl ?_
    rw [HE.out]
    exact ⟨none, 0, 0, rfl, Files.nil _ _ _, Lib.hid rfl, Nat.le_refl _, by unfold maxLen; omega, below_set4 hgw (by omega) _ _ _ _⟩
  · have HR : Hid (rightB ⟨[], room, -1, false⟩ = false) := Lib.hid (by rw [right_code]; simp [used, okFrom]; omega)
    have HE : Hid (r = (⟨[], 0, 0, false⟩, 1)) := Lib.hid (by rw [← HV.out]; unfold newD; rw [if_neg h])
    clear h
    go_enter Try.func14, Try.ntmps14
    go_wp2_with ((with_reducible refine (dright0 none 0 0 room (-1) false [] false (fun _ => False) _ (fun _ h => h.elim) (Files.nil _ _ _) rfl (Nat.le_refl _) (by unfold maxLen; omega) hr (by unfold inI; omega) (by simp [used]) HR.out).mono ?_); rintro e w1 ⟨rfl, hg⟩; have hgw := (HB.out _ _).trans (hg.mono (by rw [size_two]; omega)); have hs1 : w.heap.size + 2 ≤ w1.heap.size := (by have := hg.size; rw [size_two] at this; omega); have E0 := Lib.hid ((hg.block w.heap.size (by rw [size_two]; omega)).trans K0.out); have E1 := Lib.hid ((hg.block (w.heap.size + 1) (by rw [size_two]; omega)).trans K1.out); obtain ⟨x0, f0⟩ := block_cell E0.out 0 _ rfl; obtain ⟨x1, f1⟩ := block_cell E0.out 1 _ rfl; obtain ⟨x2, f2⟩ := block_cell E0.out 2 _ rfl; obtain ⟨x3, f3⟩ := block_cell E0.out 3 _ rfl; obtain ⟨y0, g0⟩ := block_cell E1.out 0 _ rfl; obtain ⟨y1, g1⟩ := block_cell E1.out 1 _ rfl; obtain ⟨y2, g2⟩ := block_cell E1.out 2 _ rfl; obtain ⟨y3, g3⟩ := block_cell E1.out 3 _ rfl)
    refine bodyPost_ret (v := .tuple #[.agg #[.slice none 0 0, .int .i64 0, .int .i64 0, .bool false], .int .i64 1]) (by simp [results, Try.results14, go_sem, x0, x1, x2, x3]) rfl ?_
    rw [HE.out]
    exact ⟨none, 0, 0, rfl, Files.nil _ _ _, Lib.hid rfl, Nat.le_refl _, by unfold maxLen; omega, below_set4 hgw (by omega) _ _ _ _⟩

theorem one_block (w : World) (c1 : Array Value) (t1 : TypeId) : (w.alloc (.cells c1 t1)).heap[w.heap.size]? = some (.cells c1 t1 (0, 0)) := heap_alloc_new w _

/-- what stands against an operation on that name. -/
theorem dallowed (A : Option Addr) (n c : Nat) (room fuse : Int) (down : Bool) (nm : ByteArray) (fs : List FileD) (x : Int) (S : Nat → Prop) (w : World) (hS : ∀ b, S b → b < w.heap.size) (hf : FilesIn w S A fs) (hn : fs.length = n) (hnc : n ≤ c) (hcm : c ≤ maxLen) (hr : inI room) (hfu : inI fuse) (hu : used fs ≤ 9223372036854775807) (hnm : nm.size ≤ maxLen) (hv : firstE ⟨fs, room, fuse, down⟩ nm nm = x) :
    Calls Try.prog 37 #[.agg #[.slice A n c, .int .i64 room, .int .i64 fuse, .bool down], .string nm] w fun e w' => e = .returned (.int .i64 x) ∧ Below w.heap.size w w' := by
  obtain ⟨v, hv'⟩ : ∃ v, rightB ⟨fs, room, fuse, down⟩ = v := ⟨_, rfl⟩
  obtain ⟨m, hm'⟩ : ∃ m, named nm = m := ⟨_, rfl⟩
  have HRI : Hid (∀ o, Calls Try.prog 10 #[.agg #[.slice A n c, .int .i64 room, .int .i64 fuse, .bool down]] (w.alloc o) fun e w' => e = .returned (.bool v) ∧ Below (w.alloc o).heap.size (w.alloc o) w') :=
    Lib.hid (fun o => dright0 A n c room fuse down fs v S _ (fun b hb => by have := hS b hb; simp; omega) (hf.below hS ((Below.refl _ _).alloc (Nat.le_refl _) o)) hn hnc hcm hr hfu hu hv')
  have HM := Lib.hid hm'
  have HX : Hid ((if v then (if down then 9 else if m && m then 0 else 1) else 1) = x) := Lib.hid (by rw [← hv, ← hv', ← hm']; rfl)
  have hnm' := Lib.hid hnm
  clear hf hv hv' hm' hn hnm
  unfold maxLen at hcm
  have HB : Hid (∀ o, Below w.heap.size w (w.alloc o)) := Lib.hid (fun o => (Below.refl _ _).alloc (Nat.le_refl _) o)
  have K0 := Lib.hid (one_block w #[.slice A n c, .int .i64 room, .int .i64 fuse, .bool down] 24)
  cases v <;> cases down <;> cases m <;>
    (go_enter Try.func37, Try.ntmps37
     go_wp2_with (first
       | ((with_reducible refine (HRI.out _).mono ?_); rintro e w1 ⟨rfl, hg⟩; have hgw := (HB.out _).trans (hg.mono (by simp)); have E0 := Lib.hid ((hg.block w.heap.size (by simp)).trans K0.out); obtain ⟨x3, f3⟩ := block_cell E0.out 3 _ rfl)
       | ((with_reducible refine (dnamed_is nm _ _ hnm'.out HM.out).mono ?_); rintro e w' ⟨rfl, rfl⟩))
     go_ret
     exact ⟨reti HX.out, hgw⟩)

end Go.Proofs.Ytjmjpnmlpdbbpaa.disk
