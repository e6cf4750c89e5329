/-
  Contracts of the document's own answers for layer 3: first, power.
-/
import Derived.Test.YtjmjpnmlpdbbpaaDiskRef3
import Derived.Test.YtjmjpnmlpdbbpaaDiskRef4
namespace Go.Proofs.Ytjmjpnmlpdbbpaa.disk
open Go.RowKit
set_option linter.unusedVariables false

theorem rright_is (A : Option Addr) (n c B : Nat) (room fuse : Int) (down : Bool) (fs : List FileD) (b : Bool) (w : World) (hB : B ≤ w.heap.size) (hf : Files w B A fs) (hn : fs.length = n) (hc : n ≤ maxLen) (hr : inI room) (hfu : inI fuse) (h : rightB ⟨fs, room, fuse, down⟩ = b) :
    Calls Try.prog 11 #[.agg #[.slice A n c, .int .i64 room, .int .i64 fuse, .bool down]] w fun e w' => e = .returned (.bool b) ∧ Below w.heap.size w w' := by
  rw [← h]; exact rright A n c room fuse down fs w (hf.more hB) hn hc hr hfu

theorem rfirst_is (A : Option Addr) (n c B : Nat) (room fuse : Int) (down : Bool) (fs : List FileD) (na nb : ByteArray) (x : Int) (w : World) (hB : B ≤ w.heap.size) (hf : Files w B A fs) (hn : fs.length = n) (hc : n ≤ maxLen) (hr : inI room) (hfu : inI fuse) (ha : na.size ≤ maxLen) (hb : nb.size ≤ maxLen)
    (h : firstE ⟨fs, room, fuse, down⟩ na nb = x) :
    Calls Try.prog 41 #[.agg #[.slice A n c, .int .i64 room, .int .i64 fuse, .bool down], .string na, .string nb] w fun e w' => e = .returned (.int .i64 x) ∧ Below w.heap.size w w' := by
  have HN : Hid (fs.length = n) := Lib.hid hn
  clear hn
  have hb0 : ∀ o : Obj, Below w.heap.size w (w.alloc o) := fun o => (Below.refl _ _).alloc (Nat.le_refl _) o
  have HB0 := Lib.hid hb0
  clear hb0
  obtain ⟨b1, h1⟩ : ∃ b, Hid (rightB ⟨fs, room, fuse, down⟩ = b) := ⟨_, Lib.hid rfl⟩
  obtain ⟨b2, h2⟩ : ∃ b, Hid (named na = b) := ⟨_, Lib.hid rfl⟩
  obtain ⟨b3, h3⟩ : ∃ b, Hid (named nb = b) := ⟨_, Lib.hid rfl⟩
  have HX : Hid ((if b1 then (if down then 9 else if b2 && b3 then 0 else 1) else 1) = x) := Lib.hid (by rw [← h, ← h1.out, ← h2.out, ← h3.out]; rfl)
  clear h
  have HM := Lib.hid hc
  clear hc
  rcases b1 with _ | _ <;> rcases down with _ | _ <;> rcases b2 with _ | _ <;> rcases b3 with _ | _
  all_goals
    go_enter Try.func41, Try.ntmps41
    go_wp2_with (first
      | ((with_reducible refine (rright_is _ _ _ B _ _ _ fs _ _ (by simp; omega) (hf.below ((HB0.out _).mono hB)) HN.out HM.out hr hfu h1.out).mono ?_); rintro e w' ⟨rfl, hg⟩; have hc3 := hg.cell (p := ⟨w.heap.size, 3, none⟩) (by simp); simp at hc3)
      | ((with_reducible refine (rnamed_is na _ _ ha h2.out).mono ?_); rintro e w' ⟨rfl, rfl⟩)
      | ((with_reducible refine (rnamed_is nb _ _ hb h3.out).mono ?_); rintro e w' ⟨rfl, rfl⟩))
    go_ret
    exact ⟨reti HX.out, (HB0.out _).trans (hg.mono (by simp))⟩

theorem rpower (A : Option Addr) (n c : Nat) (room fuse f2 : Int) (down d2 ok : Bool) (w : World) (hfu : inI fuse)
    (h : (fuse = 0 ∧ f2 = 0 ∧ d2 = true ∧ ok = false) ∨ (0 < fuse ∧ f2 = fuse - 1 ∧ d2 = down ∧ ok = true) ∨ (fuse < 0 ∧ f2 = fuse ∧ d2 = down ∧ ok = true)) :
    Calls Try.prog 44 #[.agg #[.slice A n c, .int .i64 room, .int .i64 fuse, .bool down]] w fun e w' => e = .returned (.tuple #[.agg #[.slice A n c, .int .i64 room, .int .i64 f2, .bool d2], .bool ok]) ∧ Below w.heap.size w w' := by
  unfold inI at hfu
  rcases h with ⟨rfl, e1, e2, e3⟩ | ⟨h1, e1, e2, e3⟩ | ⟨h1, e1, e2, e3⟩ <;> rw [e1, e2, e3] <;> clear e1 e2 e3
  · go_enter Try.func44, Try.ntmps44
    go_wp2
    exact bodyPost_ret (v := .tuple #[.agg #[.slice A n c, .int .i64 room, .int .i64 0, .bool true], .bool false]) (by simp [results, Try.results44, go_sem]) rfl ⟨rfl, ((Below.refl _ _).alloc (Nat.le_refl _) _).alloc (by simp) _⟩
  · go_enter Try.func44, Try.ntmps44
    go_wp2
    exact bodyPost_ret (v := .tuple #[.agg #[.slice A n c, .int .i64 room, .int .i64 (fuse - 1), .bool down], .bool true]) (by simp [results, Try.results44, go_sem]) rfl ⟨rfl, ((Below.refl _ _).alloc (Nat.le_refl _) _).alloc (by simp) _⟩
  · have h2 : (fuse == 0) = false := by simp; omega
    go_enter Try.func44, Try.ntmps44
    go_wp2
    exact bodyPost_ret (v := .tuple #[.agg #[.slice A n c, .int .i64 room, .int .i64 fuse, .bool down], .bool true]) (by simp [results, Try.results44, go_sem]) rfl ⟨rfl, ((Below.refl _ _).alloc (Nat.le_refl _) _).alloc (by simp) _⟩

end Go.Proofs.Ytjmjpnmlpdbbpaa.disk
