/-
  Contracts of the document's own answers for layer 3: Read; and words for the operations.
-/
import Derived.Test.YtjmjpnmlpdbbpaaDiskRef6
import Derived.Test.YtjmjpnmlpdbbpaaDiskMath
namespace Go.Proofs.Ytjmjpnmlpdbbpaa.disk
open Go.RowKit
set_option linter.unusedVariables false

/-- what comes back is this disk, and this number; it reads out of what was given, and out of what the call made; what was there is as it was. -/
def RetOp (S : Nat → Prop) (w : World) (r : DiskD × Int) (e : Ending) (w' : World) : Prop :=
  ∃ A n c, e = .returned (.tuple #[.agg #[.slice A n c, .int .i64 r.1.room, .int .i64 r.1.fuse, .bool r.1.down], .int .i64 r.2]) ∧ FilesIn w' (Out S w w') A r.1.files ∧ Hid (r.1.files.length = n) ∧ n ≤ c ∧ c ≤ maxLen ∧ Below w.heap.size w w'
/-- what comes back are these bytes, and this number. -/
def RetBytes (S : Nat → Prop) (w : World) (r : List Nat × Int) (e : Ending) (w' : World) : Prop :=
  ∃ A n c, e = .returned (.tuple #[.slice A n c, .int .i64 r.2]) ∧ BysIn w' (Out S w w') A r.1 ∧ Hid (r.1.length = n) ∧ n ≤ c ∧ c ≤ maxLen ∧ Below w.heap.size w w'

theorem rfind_is (A : Option Addr) (n c B : Nat) (room fuse : Int) (down : Bool) (nm : ByteArray) (fs : List FileD) (x : Int) (w : World) (hB : B ≤ w.heap.size) (hf : Files w B A fs) (hn : fs.length = n) (hc : n ≤ maxLen) (h : findI fs nm = x) :
    Calls Try.prog 42 #[.agg #[.slice A n c, .int .i64 room, .int .i64 fuse, .bool down], .string nm] w fun e w' => e = .returned (.int .i64 x) ∧ Below w.heap.size w w' := by
  rw [← h]; exact rfind A n c room fuse down nm fs w (hf.more hB) hn hc
theorem rused_is (A : Option Addr) (n c B : Nat) (room fuse : Int) (down : Bool) (fs : List FileD) (u : Nat) (w : World) (hB : B ≤ w.heap.size) (hf : Files w B A fs) (hn : fs.length = n) (hc : n ≤ maxLen) (hu : used fs = u) (hu2 : u ≤ 9223372036854775807) :
    Calls Try.prog 13 #[.agg #[.slice A n c, .int .i64 room, .int .i64 fuse, .bool down]] w fun e w' => e = .returned (.int .i64 (u : Nat)) ∧ Below w.heap.size w w' := by
  rw [← hu]; exact rused A n c room fuse down fs w (hf.more hB) hn hc (by rw [hu]; exact hu2)

theorem op_first {d : DiskD} {a b : ByteArray} {pre x : Int} {fs : List FileD} {app : Bool} (h : firstE d a b = x) (hx : x ≠ 0) : opD d a b pre fs app = (d, x) := by unfold opD; rw [h, if_pos hx]
theorem op_pre {d : DiskD} {a b : ByteArray} {pre y : Int} {fs : List FileD} {app : Bool} (h : firstE d a b = 0) (hp : pre = y) (hy : y ≠ 0) : opD d a b pre fs app = (d, y) := by unfold opD; rw [h, if_neg (by simp), hp, if_pos hy]
theorem op_down {d : DiskD} {a b : ByteArray} {pre : Int} {fs : List FileD} {app : Bool} (h : firstE d a b = 0) (hp : pre = 0) (hf : d.fuse = 0) : opD d a b pre fs app = (⟨if app then fs else d.files, d.room, 0, true⟩, 9) := by
  unfold opD; rw [h, if_neg (by simp), hp, if_neg (by simp), if_pos hf, hf]
theorem op_done {d : DiskD} {a b : ByteArray} {pre f2 : Int} {fs : List FileD} {app : Bool} (h : firstE d a b = 0) (hp : pre = 0) (hf : d.fuse ≠ 0) (h2 : (if 0 < d.fuse then d.fuse - 1 else d.fuse) = f2) : opD d a b pre fs app = (⟨fs, d.room, f2, d.down⟩, 0) := by
  unfold opD; rw [h, if_neg (by simp), hp, if_neg (by simp), if_neg hf, h2]
/-- how rpower is asked for what is left. -/
theorem power_on {fuse f2 : Int} {down : Bool} (hf : fuse ≠ 0) (h2 : (if 0 < fuse then fuse - 1 else fuse) = f2) : (fuse = 0 ∧ f2 = 0 ∧ down = true ∧ true = false) ∨ (0 < fuse ∧ f2 = fuse - 1 ∧ down = down ∧ true = true) ∨ (fuse < 0 ∧ f2 = fuse ∧ down = down ∧ true = true) := by
  by_cases h : 0 < fuse
  · rw [if_pos h] at h2; exact .inr (.inl ⟨h, h2.symm, rfl, rfl⟩)
  · rw [if_neg h] at h2; exact .inr (.inr ⟨by omega, h2.symm, rfl, rfl⟩)
theorem power_off {fuse : Int} {down : Bool} (hf : fuse = 0) : (fuse = 0 ∧ (0 : Int) = 0 ∧ true = true ∧ false = false) ∨ (0 < fuse ∧ (0 : Int) = fuse - 1 ∧ true = down ∧ false = true) ∨ (fuse < 0 ∧ (0 : Int) = fuse ∧ true = down ∧ false = true) := .inl ⟨hf, rfl, rfl, rfl⟩

/-- a disk that is stored into a block of the call's own still reads. -/
theorem files_store {S : Nat → Prop} {w w3 w4 : World} {g : Nat} {A : Option Addr} {fs : List FileD} (h : FilesIn w4 (Out S w3 w4) A fs) (hS : ∀ b, S b → b < w.heap.size) (h1 : w.heap.size ≤ g) (h3 : g < w3.heap.size) (v0 v1 v2 v3 : Value) :
    FilesIn ((((w4.setCell ⟨g, 0, none⟩ v0).setCell ⟨g, 1, none⟩ v1).setCell ⟨g, 2, none⟩ v2).setCell ⟨g, 3, none⟩ v3) (Out S w ((((w4.setCell ⟨g, 0, none⟩ v0).setCell ⟨g, 1, none⟩ v1).setCell ⟨g, 2, none⟩ v2).setCell ⟨g, 3, none⟩ v3)) A fs := by
  refine Elems.keep keeps_file h (alike_set4 (fun hn => ?_) _ _ _ _) (Out.widen (by omega) (by rw [size_set4]; exact Nat.le_refl _))
  rcases hn with hn | hn
  · have := hS g hn; omega
  · omega
/-- what was given reads where only what the call made has changed. -/
theorem files_old {S : Nat → Prop} {w w' : World} {A : Option Addr} {fs : List FileD} (h : FilesIn w S A fs) (hS : ∀ b, S b → b < w.heap.size) (hb : Below w.heap.size w w') : FilesIn w' (Out S w w') A fs := (h.below hS hb).more Out.mk

theorem size_set4a (w : World) (g : Nat) (v0 v1 v2 v3 : Value) (o : Obj) : (((((w.setCell ⟨g, 0, none⟩ v0).setCell ⟨g, 1, none⟩ v1).setCell ⟨g, 2, none⟩ v2).setCell ⟨g, 3, none⟩ v3).alloc o).heap.size = w.heap.size + 1 := by simp [World.setCell]

theorem size_set4d (w : World) (g : Nat) (v0 v1 v2 v3 : Value) (o : Obj) : (((((w.setCell ⟨g, 0, none⟩ v0).setCell ⟨g, 1, none⟩ v1).setCell ⟨g, 2, none⟩ v2).setCell ⟨g, 3, none⟩ v3).alloc o).drew.heap.size = w.heap.size + 1 := by
  rw [heap_drew]; exact size_set4a _ _ _ _ _ _ _
theorem heap_alloc_set4 (w : World) (g : Nat) (v0 v1 v2 v3 : Value) (cs : Array Value) (T : TypeId) : (((((w.setCell ⟨g, 0, none⟩ v0).setCell ⟨g, 1, none⟩ v1).setCell ⟨g, 2, none⟩ v2).setCell ⟨g, 3, none⟩ v3).alloc (.cells cs T)).heap[w.heap.size]? = some (.cells cs T (0, 0)) := by
  have h := heap_alloc_new ((((w.setCell ⟨g, 0, none⟩ v0).setCell ⟨g, 1, none⟩ v1).setCell ⟨g, 2, none⟩ v2).setCell ⟨g, 3, none⟩ v3) (.cells cs T)
  rw [size_set4] at h
  exact h
theorem files_keep {S T : Nat → Prop} {w w4 : World} {g : Nat} {A : Option Addr} {fs : List FileD} (h : FilesIn w4 T A fs) (hT : ∀ b, T b → b ≠ g ∧ (S b ∨ (w.heap.size ≤ b ∧ b < w4.heap.size))) (v0 v1 v2 v3 : Value) :
    FilesIn ((((w4.setCell ⟨g, 0, none⟩ v0).setCell ⟨g, 1, none⟩ v1).setCell ⟨g, 2, none⟩ v2).setCell ⟨g, 3, none⟩ v3) (Out S w ((((w4.setCell ⟨g, 0, none⟩ v0).setCell ⟨g, 1, none⟩ v1).setCell ⟨g, 2, none⟩ v2).setCell ⟨g, 3, none⟩ v3)) A fs :=
  Elems.keep keeps_file h (alike_set4 (fun hn => (hT g hn).1 rfl) _ _ _ _) (fun b hb => by
    rcases (hT b hb).2 with h | h
    · exact .inl h
    · exact .inr (by rw [size_set4]; exact h))

set_option maxHeartbeats 4000000 in
theorem rread (A : Option Addr) (n c : Nat) (room fuse : Int) (down : Bool) (nm : ByteArray) (fs : List FileD) (S : Nat → Prop) (w : World) (hS : ∀ b, S b → b < w.heap.size) (hf : FilesIn w S A fs) (hn : fs.length = n) (hc : n ≤ maxLen) (hr : inI room) (hfu : inI fuse) (ha : nm.size ≤ maxLen) :
    Calls Try.prog 27 #[.agg #[.slice A n c, .int .i64 room, .int .i64 fuse, .bool down], .string nm] w (RetBytes S w (readD ⟨fs, room, fuse, down⟩ nm)) := by
  have HN : Hid (fs.length = n) := Lib.hid hn
  have HC := Lib.hid hc
  have HA := Lib.hid ha
  have HF : Hid (∀ W, Below w.heap.size w W → Files W w.heap.size A fs) := Lib.hid (fun W h => hf.files hS h)
  unfold maxLen at hc
  clear hn ha
  have hb0 : ∀ o : Obj, Below w.heap.size w (w.alloc o) := fun o => (Below.refl _ _).alloc (Nat.le_refl _) o
  have HB0 := Lib.hid hb0
  clear hb0
  obtain ⟨x, hx⟩ : ∃ x, Hid (firstE ⟨fs, room, fuse, down⟩ nm nm = x) := ⟨_, Lib.hid rfl⟩
  by_cases hx0 : x = 0
  · subst hx0
    rcases findI_look nm fs with ⟨g1, g2⟩ | ⟨k, f, g1, g2, g3⟩
    · have HR : Hid (readD ⟨fs, room, fuse, down⟩ nm = ([], 7)) := Lib.hid (by unfold readD; rw [if_neg (by rw [hx.out]; simp), g2])
      have HG := Lib.hid g1
      clear g1 g2
      go_enter Try.func27, Try.ntmps27
      go_wp2_with (first
        | ((with_reducible refine (rfirst_is _ _ _ w.heap.size _ _ _ fs _ _ _ _ (by simp) (HF.out _ (HB0.out _)) HN.out HC.out hr hfu HA.out HA.out hx.out).mono ?_); rintro e w' ⟨rfl, hg⟩; have hgw := (HB0.out _).trans (hg.mono (by simp)); have hc0 := hg.cell (p := ⟨w.heap.size, 0, none⟩) (by simp); have hc1 := hg.cell (p := ⟨w.heap.size, 1, none⟩) (by simp); have hc2 := hg.cell (p := ⟨w.heap.size, 2, none⟩) (by simp); have hc3 := hg.cell (p := ⟨w.heap.size, 3, none⟩) (by simp); simp at hc0 hc1 hc2 hc3)
        | ((with_reducible refine (rfind_is _ _ _ w.heap.size _ _ _ _ fs _ _ hgw.size (HF.out _ hgw) HN.out HC.out HG.out).mono ?_); rintro e w2 ⟨rfl, hg2⟩))
      refine bodyPost_ret (v := .tuple #[.slice none 0 0, .int .i64 7]) (by simp [results, Try.results27, go_sem]) rfl ?_
      rw [HR.out]
      exact ⟨none, 0, 0, rfl, ints_in.1 (Ints.nil _ w2 0 _) |>.keep (alike_refl _ _) (fun b h => absurd h (Nat.not_lt_zero b)), Lib.hid rfl, Nat.le_refl _, by unfold maxLen; omega, hgw.trans (hg2.mono hgw.size)⟩
    · have HR : Hid (readD ⟨fs, room, fuse, down⟩ nm = (f.data, 0)) := Lib.hid (by unfold readD; rw [if_neg (by rw [hx.out]; simp), g3])
      have HG := Lib.hid g1
      have hk : k < fs.length := (List.getElem?_eq_some_iff.1 g2).1
      obtain ⟨b, off, f', A', n', c', rfl, hbS, HX, cell0, cell1, cell2, q1, q2, q3, q4, q5, q6⟩ := hf.at_ hk
      have hb := hS b hbS
      obtain rfl : f = f' := by have := HX.out; rw [g2] at this; injection this
      rw [HN.out] at hk
      clear g1 g2 g3 hbS
      go_enter Try.func27, Try.ntmps27
      go_wp2_with (first
        | ((with_reducible refine (rfirst_is _ _ _ w.heap.size _ _ _ fs _ _ _ _ (by simp) (HF.out _ (HB0.out _)) HN.out HC.out hr hfu HA.out HA.out hx.out).mono ?_); rintro e w' ⟨rfl, hg⟩; have hgw := (HB0.out _).trans (hg.mono (by simp)); have hc0 := hg.cell (p := ⟨w.heap.size, 0, none⟩) (by simp); have hc1 := hg.cell (p := ⟨w.heap.size, 1, none⟩) (by simp); have hc2 := hg.cell (p := ⟨w.heap.size, 2, none⟩) (by simp); have hc3 := hg.cell (p := ⟨w.heap.size, 3, none⟩) (by simp); simp at hc0 hc1 hc2 hc3; have hs1 := hg.size; simp at hs1)
        | ((with_reducible refine (rfind_is _ _ _ w.heap.size _ _ _ _ fs _ _ hgw.size (HF.out _ hgw) HN.out HC.out HG.out).mono ?_); rintro e w2 ⟨rfl, hg2⟩; have hgw2 := hgw.trans (hg2.mono hgw.size); have hd0 := (hg2.cell (p := ⟨w.heap.size, 0, none⟩) (by show w.heap.size < _; omega)).trans hc0; have hd1 := (hgw2.cell (p := ⟨b, off + k * 3 + 1, none⟩) (by show b < _; omega)).trans cell1))
      refine bodyPost_ret (v := .tuple #[.slice A' n' c', .int .i64 0]) (by simp [results, Try.results27, go_sem]) rfl ?_
      rw [HR.out]
      exact ⟨A', n', c', rfl, (q2.below hS hgw2).keep (alike_refl _ _) Out.mk, q3, q4, q5, hgw2⟩
  · have HR : Hid (readD ⟨fs, room, fuse, down⟩ nm = ([], x)) := Lib.hid (by unfold readD; rw [hx.out, if_pos hx0])
    have hx1 : (x != 0) = true := by simpa using hx0
    clear hx0
    go_enter Try.func27, Try.ntmps27
    go_wp2_with ((with_reducible refine (rfirst_is _ _ _ w.heap.size _ _ _ fs _ _ _ _ (by simp) (HF.out _ (HB0.out _)) HN.out HC.out hr hfu HA.out HA.out hx.out).mono ?_); rintro e w' ⟨rfl, hg⟩)
    refine bodyPost_ret (v := .tuple #[.slice none 0 0, .int .i64 x]) (by simp [results, Try.results27, go_sem]) rfl ?_
    rw [HR.out]
    exact ⟨none, 0, 0, rfl, ints_in.1 (Ints.nil _ w' 0 _) |>.keep (alike_refl _ _) (fun b h => absurd h (Nat.not_lt_zero b)), Lib.hid rfl, Nat.le_refl _, by unfold maxLen; omega, (HB0.out _).trans (hg.mono (by simp))⟩

end Go.Proofs.Ytjmjpnmlpdbbpaa.disk
