/-
  Contracts of the document's own answers for layer 3: Same (of two that are alike), Short.
-/
import Derived.Test.YtjmjpnmlpdbbpaaDiskRef
namespace Go.Proofs.Ytjmjpnmlpdbbpaa.disk
open Go.RowKit
set_option linter.unusedVariables false

set_option maxHeartbeats 4000000 in
theorem rsame_yes (A A2 : Option Addr) (n c c2 B : Nat) (room fuse : Int) (down : Bool) (fs : List FileD) (w : World) (hB : B ≤ w.heap.size) (hf : Files w B A fs) (hf2 : Files w B A2 fs) (hn : fs.length = n) (hc : n ≤ maxLen) :
    Calls Try.prog 31 #[.agg #[.slice A n c, .int .i64 room, .int .i64 fuse, .bool down], .agg #[.slice A2 n c2, .int .i64 room, .int .i64 fuse, .bool down]] w fun e w' => e = .returned (.bool true) ∧ Below w.heap.size w w' := by
  have HN : Hid (fs.length = n) := Lib.hid hn
  clear hn
  unfold maxLen at hc
  obtain ⟨W0, hW0⟩ : ∃ W0, Hid ((w.alloc (.cells #[.slice A n c, .int .i64 room, .int .i64 fuse, .bool down] 24)).alloc (.cells #[.slice A2 n c2, .int .i64 room, .int .i64 fuse, .bool down] 24) = W0) := ⟨_, Lib.hid rfl⟩
  have hb0 : Below w.heap.size w W0 := by rw [← hW0.out]; exact ((Below.refl _ _).alloc (Nat.le_refl _) _).alloc (by simp) _
  have HS0 : Hid (W0.heap.size = w.heap.size + 2) := Lib.hid (by rw [← hW0.out]; simp)
  have HC1 : Hid (W0.cell? ⟨w.heap.size, 0, none⟩ = some (.slice A n c)) := Lib.hid (by rw [← hW0.out]; simp)
  have HC2 : Hid (W0.cell? ⟨w.heap.size + 1, 0, none⟩ = some (.slice A2 n c2)) := Lib.hid (by rw [← hW0.out]; simp)
  go_enter Try.func31, Try.ntmps31
  go_wp2
  go_loopw [5] (fun i wr => ∃ k : Nat, k ≤ n ∧ i = .int .i64 k ∧ Below (w.heap.size + 2) W0 wr) (fun i _ => n - (intOf i).toNat)
  case atStart => exact ⟨0, Nat.zero_le _, rfl, by rw [hW0.out]; exact Below.refl _ _⟩
  case round =>
    obtain ⟨k, hk, rfl, hbr⟩ := hrel
    have hsz := hbr.size
    rw [HS0.out] at hsz
    have hbw : Below w.heap.size w wr := hb0.trans (hbr.mono (by omega))
    have x1 : wr.cell? ⟨w.heap.size, 0, none⟩ = some (.slice A n c) := (hbr.cell (p := ⟨w.heap.size, 0, none⟩) (by show w.heap.size < _; omega)).trans HC1.out
    have x2 : wr.cell? ⟨w.heap.size + 1, 0, none⟩ = some (.slice A2 n c2) := (hbr.cell (p := ⟨w.heap.size + 1, 0, none⟩) (by show w.heap.size + 1 < _; omega)).trans HC2.out
    by_cases hlt : k < n
    · obtain ⟨b, off, f, A', n', c', rfl, hb, HX, cell0, cell1, cell2, q1, q2, q3, q4, q5, q6⟩ := (hf.below (hbw.mono hB)).at_ (j := k) (by rw [HN.out]; exact hlt)
      obtain ⟨b2, off2, f2, A2', n2', c2', rfl, hb2, HX2, dell0, dell1, dell2, r1, r2, r3, r4, r5, r6⟩ := (hf2.below (hbw.mono hB)).at_ (j := k) (by rw [HN.out]; exact hlt)
      obtain rfl : f = f2 := by have := HX.out; rw [HX2.out] at this; injection this with this; exact this.symm
      have hlt1 : b < wr.heap.size := by omega
      have hlt2 : b2 < wr.heap.size := by omega
      have hlt3 : w.heap.size < wr.heap.size := by omega
      have hlt4 : w.heap.size + 1 < wr.heap.size := by omega
      have hcv1 : ∀ o1 o2, (convert 25 9 (.slice A' n' c')).run Try.prog ((wr.alloc o1).alloc o2).drew = .ok (.string (strB f.data)) ((wr.alloc o1).alloc o2).drew := fun o1 o2 =>
        run_bys_string (B := B) (q2.below ((((Below.refl _ _).alloc (by omega) o1).alloc (by simp; omega) o2).drew)) q3.out 25 5 9 Try.underlying25 Try.underlying5 Try.underlying9
      have hcv2 : ∀ o1 o2, (convert 25 9 (.slice A2' n2' c2')).run Try.prog ((wr.alloc o1).alloc o2).drew = .ok (.string (strB f.data)) ((wr.alloc o1).alloc o2).drew := fun o1 o2 =>
        run_bys_string (B := B) (r2.below ((((Below.refl _ _).alloc (by omega) o1).alloc (by simp; omega) o2).drew)) r3.out 25 5 9 Try.underlying25 Try.underlying5 Try.underlying9
      go_wp2
      go_region
      all_goals
        go_wp2
        go_roundw
        case rel => exact ⟨k + 1, by omega, by go_num, hbr.trans ((((Below.refl _ _).alloc (by omega) _).alloc (by simp; omega) _).drew)⟩
        case measure => first | (simp [intOf]; done) | (simp [intOf]; omega)
    · go_wp2
      go_ret
      exact ⟨rfl, hbw⟩

theorem short_no {fs : List FileD} {k : Nat} {f : FileD} (h : fs[k]? = some f) (hb : shortFile f = false) : false = shortB fs := by
  unfold shortB
  have : fs.all shortFile = false := by
    rw [List.all_eq_false]
    exact ⟨f, List.mem_of_getElem? h, by simp [hb]⟩
  rw [this]; simp
theorem short_take {fs : List FileD} {k : Nat} {f : FileD} (h : fs[k]? = some f) (hp : (fs.take k).all shortFile = true) (hb : shortFile f = true) : (fs.take (k + 1)).all shortFile = true := by
  rw [List.take_add_one, h, List.all_append, hp]
  simp [hb]

set_option maxHeartbeats 4000000 in
theorem rshort (A : Option Addr) (n c : Nat) (room fuse : Int) (down : Bool) (fs : List FileD) (w : World) (hf : Files w w.heap.size A fs) (hn : fs.length = n) (hc : n ≤ maxLen) :
    Calls Try.prog 9 #[.agg #[.slice A n c, .int .i64 room, .int .i64 fuse, .bool down]] w fun e w' => e = .returned (.bool (shortB fs)) ∧ Below w.heap.size w w' := by
  have HN : Hid (fs.length = n) := Lib.hid hn
  clear hn
  unfold maxLen at hc
  by_cases hbig : 70 < n
  · have HP : Hid (false = shortB fs) := Lib.hid (by symm; unfold shortB; rw [HN.out]; simp; omega)
    go_enter Try.func9, Try.ntmps9
    go_wp2
    go_ret
    exact ⟨retb HP.out, (Below.refl _ _).alloc (Nat.le_refl _) _⟩
  go_enter Try.func9, Try.ntmps9
  go_wp2
  go_loop [3, 4] (fun t i => ∃ k u : Nat, k ≤ n ∧ i = .int .i64 k ∧ t = .int .i64 u ∧ Hid (used (fs.take k) = u) ∧ u ≤ 70000 * k ∧ Hid ((fs.take k).all shortFile = true)) (fun _ i => n - (intOf i).toNat)
  case atStart => exact ⟨0, 0, Nat.zero_le _, rfl, rfl, Lib.hid rfl, by omega, Lib.hid (by simp)⟩
  case round =>
    obtain ⟨k, u, hk, rfl, rfl, HU, hu, HA⟩ := hrel
    by_cases hlt : k < n
    · obtain ⟨b, off, f, A', n', c', rfl, hb, HX, cell0, cell1, cell2, q1, q2, q3, q4, q5, q6⟩ := hf.at_ (j := k) (by rw [HN.out]; exact hlt)
      have hne : b ≠ w.heap.size := by omega
      unfold maxLen at q1
      rcases (show 70000 < n' ∨ (n' ≤ 70000 ∧ 100 < f.name.size) ∨ (n' ≤ 70000 ∧ f.name.size ≤ 100) by omega) with s1 | ⟨s1, s2⟩ | ⟨s1, s2⟩
      · have HP : Hid (false = shortB fs) := Lib.hid (short_no HX.out (by unfold shortFile; rw [q3.out]; simp; omega))
        go_wp2
        go_ret
        exact ⟨retb HP.out, (Below.refl _ _).alloc (Nat.le_refl _) _⟩
      · have HP : Hid (false = shortB fs) := Lib.hid (short_no HX.out (by unfold shortFile; rw [q3.out]; simp; omega))
        go_wp2
        go_ret
        exact ⟨retb HP.out, (Below.refl _ _).alloc (Nat.le_refl _) _⟩
      · have HS : Hid (used (fs.take (k + 1)) = u + n') := Lib.hid (by rw [used_step HX.out, HU.out, q3.out])
        have HA2 : Hid ((fs.take (k + 1)).all shortFile = true) := Lib.hid (short_take HX.out HA.out (by unfold shortFile; rw [q3.out]; simp; omega))
        go_wp2
        go_round
        case rel => exact ⟨k + 1, u + n', by omega, by go_num, by go_num, HS, by omega, HA2⟩
        case measure => first | (simp [intOf]; done) | (simp [intOf]; omega)
    · have HE : Hid (decide ((u : Int) ≤ 70000) = shortB fs) := Lib.hid (by
        have h1 := HA.out
        have h2 := HU.out
        rw [List.take_of_length_le (by rw [HN.out]; omega)] at h1 h2
        unfold shortB
        rw [h1, h2, HN.out, decide_eq_true (show n ≤ 70 by omega), Bool.true_and, Bool.true_and, decide_eq_decide]
        omega)
      go_wp2
      go_ret
      exact ⟨retb HE.out, (Below.refl _ _).alloc (Nat.le_refl _) _⟩

end Go.Proofs.Ytjmjpnmlpdbbpaa.disk
