/-
  Plain words for DiskFuse: a thing of a script at a disk without a fuse, and at one that has the same files and a fuse, or is down.
-/
import Derived.Test.YtaognhkjojkbbaaDiskRun
import Derived.Test.YtaognhkjojkbbaaDiskPlain
import Derived.Test.YtaognhkjojkbbaaDiskDo
namespace Go.Proofs.Ytaognhkjojkbbaa.disk
open Go.RowKit
set_option linter.unusedVariables false

theorem plain_shape {d : DiskD} {room : Int} (h : Plain d) (hr : d.room = room) : d = ⟨d.files, room, -1, false⟩ := by
  obtain ⟨fs, r, f, dn⟩ := d
  obtain ⟨_, h2, h3⟩ := h
  simp only at h2 h3 hr
  subst h2 h3 hr
  rfl
theorem room_op (d : DiskD) (a b : ByteArray) (pre : Int) (fs : List FileD) (app : Bool) : (opD d a b pre fs app).1.room = d.room := by
  unfold opD; split <;> (try split) <;> (try split) <;> rfl
theorem room_do (d : DiskD) (x : DoD) : (doD d x).1.room = d.room := by
  unfold doD; split <;> exact room_op _ _ _ _ _ _
def Way (Ff Fb gs fb : List FileD) (zb z2 h kk : Int) (db d2 : Bool) (left kind : Nat) : Prop :=
  (db = true ∧ kk = 9 ∧ fb = Fb ∧ z2 = zb ∧ d2 = true) ∨
  (db = false ∧ Fb = Ff ∧ zb = left ∧ h ≠ 0 ∧ kk = h ∧ gs = Ff ∧ fb = Ff ∧ z2 = left ∧ d2 = false) ∨
  (db = false ∧ Fb = Ff ∧ zb = left ∧ left = 0 ∧ h = 0 ∧ kk = 9 ∧ z2 = 0 ∧ d2 = true ∧ (1 < kind % 6 → fb = Ff)) ∨
  (db = false ∧ Fb = Ff ∧ zb = left ∧ 0 < left ∧ h = 0 ∧ kk = 0 ∧ fb = gs ∧ z2 = (left : Int) - 1 ∧ d2 = false)
theorem fuse_all {Ff Fb : List FileD} {R zb : Int} {db : Bool} {left : Nat} (hp : Plain ⟨Ff, R, -1, false⟩) (hr : rightB ⟨Fb, R, zb, db⟩ = true) (hz : 0 ≤ zb ∧ zb ≤ 255) (hrel : db = true ∨ (db = false ∧ Fb = Ff ∧ zb = (left : Int))) (x : DoD) :
    ∃ gs h fb z2 d2 kk, doD ⟨Ff, R, -1, false⟩ x = (⟨gs, R, -1, false⟩, h) ∧ Plain ⟨gs, R, -1, false⟩ ∧ doD ⟨Fb, R, zb, db⟩ x = (⟨fb, R, z2, d2⟩, kk) ∧ rightB ⟨fb, R, z2, d2⟩ = true ∧ 0 ≤ z2 ∧ z2 ≤ 255 ∧ Way Ff Fb gs fb zb z2 h kk db d2 left x.kind := by
  have h1 := plain_do hp x
  have h2 := plain_shape h1 (room_do _ x)
  have h3 := right_do hr x
  rcases hrel with hd | ⟨hd, hF, hzz⟩
  · have h4 := down_do (d := ⟨Fb, R, zb, db⟩) hr hd x
    rw [h4] at h3
    refine ⟨(doD ⟨Ff, R, -1, false⟩ x).1.files, (doD ⟨Ff, R, -1, false⟩ x).2, Fb, zb, db, 9, Prod.ext h2 rfl, by rw [← h2]; exact h1, h4, h3, hz.1, hz.2, .inl ⟨hd, rfl, rfl, rfl, hd⟩⟩
  · subst hd hF hzz
    rcases fuse_do hp left x with ⟨e, k1, k2, k3⟩ | ⟨gs, k1, ⟨k2, app, k3, k4⟩ | ⟨k2, k3⟩⟩
    · simp only at k3
      exact ⟨Fb, e, Fb, left, false, e, k2, hp, k3, hr, hz.1, hz.2, .inr (.inl ⟨rfl, rfl, rfl, k1, rfl, rfl, rfl, rfl, rfl⟩)⟩
    · simp only at k1 k4
      rw [k1] at h1
      rw [k4] at h3
      exact ⟨gs, 0, _, 0, true, 9, k1, h1, k4, h3, by omega, by omega, .inr (.inr (.inl ⟨rfl, rfl, rfl, k2, rfl, rfl, rfl, rfl, fun hh => by rw [k3 hh]; rfl⟩))⟩
    · simp only at k1 k3
      rw [k1] at h1
      rw [k3] at h3
      exact ⟨gs, 0, gs, (left : Int) - 1, false, 0, k1, h1, k3, h3, by omega, by omega, .inr (.inr (.inr ⟨rfl, rfl, rfl, k2, rfl, rfl, rfl, rfl, rfl⟩))⟩

/-- a disk's cells and what they read, the own blocks apart. -/
def Has4 (T : TypeId) (W : World) (g : Nat) (own : List Nat) (A : Option Addr) (n c : Nat) (fs : List FileD) (room fuse : Int) (down : Bool) : Prop :=
  W.heap[g]? = some (.cells #[.slice A n c, .int .i64 room, .int .i64 fuse, .bool down] T (0, 0)) ∧ FilesIn W (Off own W) A fs ∧ fs.length = n ∧ n ≤ c ∧ c ≤ maxLen
section
variable {T : TypeId} {W W' : World} {g : Nat} {own : List Nat} {A : Option Addr} {n c : Nat} {fs : List FileD} {room fuse : Int} {down : Bool}
theorem Has4.later (h : Has4 T W g own A n c fs room fuse down) (hb : Below W.heap.size W W') : Has4 T W' g own A n c fs room fuse down :=
  ⟨(hb.block g (cell_block (block_cell h.1 0 _ rfl).1)).trans h.1, h.2.1.grow hb, h.2.2⟩
theorem Has4.cells (h : Has4 T W g own A n c fs room fuse down) : W.cell? ⟨g, 0, none⟩ = some (.slice A n c) ∧ W.cell? ⟨g, 1, none⟩ = some (.int .i64 room) ∧ W.cell? ⟨g, 2, none⟩ = some (.int .i64 fuse) ∧ W.cell? ⟨g, 3, none⟩ = some (.bool down) ∧ g < W.heap.size := cells4 h.1
theorem Has4.froz (h : Has4 T W g own A n c fs room fuse down) : W.frozen? ⟨g, 0, none⟩ = false ∧ W.frozen? ⟨g, 1, none⟩ = false ∧ W.frozen? ⟨g, 2, none⟩ = false ∧ W.frozen? ⟨g, 3, none⟩ = false :=
  ⟨(block_cell h.1 0 _ rfl).2, (block_cell h.1 1 _ rfl).2, (block_cell h.1 2 _ rfl).2, (block_cell h.1 3 _ rfl).2⟩
end
theorem cells5 {w : World} {g : Nat} {T : TypeId} {v0 v1 v2 v3 v4 : Value} (h : w.heap[g]? = some (.cells #[v0, v1, v2, v3, v4] T (0, 0))) : w.cell? ⟨g, 0, none⟩ = some v0 ∧ w.cell? ⟨g, 1, none⟩ = some v1 ∧ w.cell? ⟨g, 2, none⟩ = some v2 ∧ w.cell? ⟨g, 3, none⟩ = some v3 ∧ w.cell? ⟨g, 4, none⟩ = some v4 ∧ g < w.heap.size :=
  ⟨(block_cell h 0 v0 rfl).1, (block_cell h 1 v1 rfl).1, (block_cell h 2 v2 rfl).1, (block_cell h 3 v3 rfl).1, (block_cell h 4 v4 rfl).1, cell_block (block_cell h 0 v0 rfl).1⟩
theorem files_less {own : List Nat} {W : World} {g : Nat} {A : Option Addr} {fs : List FileD} (h : FilesIn W (Off (g :: own) W) A fs) : FilesIn W (Off own W) A fs := h.more (fun b hb => ⟨hb.1, fun hm => hb.2 (List.mem_cons_of_mem _ hm)⟩)
theorem files_set1 {own : List Nat} {W : World} {p : Addr} {A : Option Addr} {fs : List FileD} (h : FilesIn W (Off own W) A fs) (hg : p.block ∈ own) (v : Value) : FilesIn (W.setCell p v) (Off own (W.setCell p v)) A fs :=
  Elems.keep keeps_file h (fun b o hb => World.cell?_of_block (Below.heap_setCell W p v b (fun e => hb.2 (by rw [e]; exact hg)))) (fun b hb => ⟨by simpa [World.setCell] using hb.1, hb.2⟩)
end Go.Proofs.Ytaognhkjojkbbaa.disk
