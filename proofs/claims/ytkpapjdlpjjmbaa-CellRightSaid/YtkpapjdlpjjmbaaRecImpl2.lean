/-
  Contracts of package rec: limits, what is told, a record's numbers.
-/
import Derived.Test.YtkpapjdlpjjmbaaRecImpl1
namespace Go.Proofs.Ytkpapjdlpjjmbaa.rec
open Go.RowKit Go.Proofs.Ytkpapjdlpjjmbaa
set_option linter.unusedVariables false
set_option linter.unusedSimpArgs false

theorem ord_is (k o a y d q p l s n : Int) (on : Bool) (z t : Int) {b : Bool} (h : mayOrder o = b) (w : World) : Calls Try.prog 52 #[.agg #[.int .i64 k, .int .i64 o, .int .i64 a, .int .i64 y, .int .i64 d, .int .i64 q, .int .i64 p, .int .i64 l, .int .i64 s, .int .i64 n, .bool on, .int .i64 z, .int .i64 t]] w fun e w' => e = .returned (.bool b) ∧ Below w.heap.size w w' := by
  have := ord_any k o a y d q p l s n on z t w
  rw [h] at this
  exact this

theorem acc_is (k o a y d q p l s n : Int) (on : Bool) (z t : Int) {b : Bool} (h : mayAcc a = b) (w : World) : Calls Try.prog 53 #[.agg #[.int .i64 k, .int .i64 o, .int .i64 a, .int .i64 y, .int .i64 d, .int .i64 q, .int .i64 p, .int .i64 l, .int .i64 s, .int .i64 n, .bool on, .int .i64 z, .int .i64 t]] w fun e w' => e = .returned (.bool b) ∧ Below w.heap.size w w' := by
  have := acc_any k o a y d q p l s n on z t w
  rw [h] at this
  exact this

theorem sym_is (k o a y d q p l s n : Int) (on : Bool) (z t : Int) {b : Bool} (h : mayAcc y = b) (w : World) : Calls Try.prog 54 #[.agg #[.int .i64 k, .int .i64 o, .int .i64 a, .int .i64 y, .int .i64 d, .int .i64 q, .int .i64 p, .int .i64 l, .int .i64 s, .int .i64 n, .bool on, .int .i64 z, .int .i64 t]] w fun e w' => e = .returned (.bool b) ∧ Below w.heap.size w w' := by
  have := sym_any k o a y d q p l s n on z t w
  rw [h] at this
  exact this

theorem ask_is (k o a y d q p l s n : Int) (on : Bool) (z t : Int) {b : Bool} (h : mayAsk q p = b) (w : World) : Calls Try.prog 55 #[.agg #[.int .i64 k, .int .i64 o, .int .i64 a, .int .i64 y, .int .i64 d, .int .i64 q, .int .i64 p, .int .i64 l, .int .i64 s, .int .i64 n, .bool on, .int .i64 z, .int .i64 t]] w fun e w' => e = .returned (.bool b) ∧ Below w.heap.size w w' := by
  have := ask_any k o a y d q p l s n on z t w
  rw [h] at this
  exact this

/-- the box of a record stays as it is. -/
theorem boxed {w W : World} {c : Array Value} {T : TypeId} (hb : Below (w.alloc (.cells c T)).heap.size (w.alloc (.cells c T)) W) : W.heap[w.heap.size]? = some (.cells c T (0, 0)) :=
  (hb.block _ (by simp)).trans (heap_alloc_new w _)
theorem cells13 {W : World} {g : Nat} {T : TypeId} {k o a y d q p l s n : Int} {on : Bool} {z t : Int} (h : W.heap[g]? = some (.cells #[.int .i64 k, .int .i64 o, .int .i64 a, .int .i64 y, .int .i64 d, .int .i64 q, .int .i64 p, .int .i64 l, .int .i64 s, .int .i64 n, .bool on, .int .i64 z, .int .i64 t] T (0, 0))) :
    W.cell? ⟨g, 0, none⟩ = some (.int .i64 k) ∧ W.cell? ⟨g, 1, none⟩ = some (.int .i64 o) ∧ W.cell? ⟨g, 2, none⟩ = some (.int .i64 a) ∧ W.cell? ⟨g, 3, none⟩ = some (.int .i64 y) ∧ W.cell? ⟨g, 4, none⟩ = some (.int .i64 d) ∧ W.cell? ⟨g, 5, none⟩ = some (.int .i64 q) ∧ W.cell? ⟨g, 6, none⟩ = some (.int .i64 p) ∧ W.cell? ⟨g, 7, none⟩ = some (.int .i64 l) ∧ W.cell? ⟨g, 8, none⟩ = some (.int .i64 s) ∧ W.cell? ⟨g, 9, none⟩ = some (.int .i64 n) ∧ W.cell? ⟨g, 10, none⟩ = some (.bool on) ∧ W.cell? ⟨g, 11, none⟩ = some (.int .i64 z) ∧ W.cell? ⟨g, 12, none⟩ = some (.int .i64 t) :=
  ⟨(block_cell h 0 _ rfl).1, (block_cell h 1 _ rfl).1, (block_cell h 2 _ rfl).1, (block_cell h 3 _ rfl).1, (block_cell h 4 _ rfl).1, (block_cell h 5 _ rfl).1, (block_cell h 6 _ rfl).1, (block_cell h 7 _ rfl).1, (block_cell h 8 _ rfl).1, (block_cell h 9 _ rfl).1, (block_cell h 10 _ rfl).1, (block_cell h 11 _ rfl).1, (block_cell h 12 _ rfl).1⟩

theorem bound_any (k o a y d q p l s n : Int) (on : Bool) (z t : Int) (w : World) : Calls Try.prog 56 #[.agg #[.int .i64 k, .int .i64 o, .int .i64 a, .int .i64 y, .int .i64 d, .int .i64 q, .int .i64 p, .int .i64 l, .int .i64 s, .int .i64 n, .bool on, .int .i64 z, .int .i64 t]] w fun e w' => e = .returned (.bool (mayBound y l s n)) ∧ Below w.heap.size w w' := by
  by_cases hy : y = -1
  · subst hy
    have hc : ∃ r, Hid (mayBound (-1) l s n = r) ∧ (((l == 0) = false ∧ r = false) ∨ (l = 0 ∧ (s == 0) = false ∧ r = false) ∨ (l = 0 ∧ s = 0 ∧ n < 0 ∧ r = false) ∨ (l = 0 ∧ s = 0 ∧ 0 ≤ n ∧ r = true)) := by
      refine ⟨_, Lib.hid rfl, ?_⟩
      simp only [mayBound, if_true, decide_eq_false_iff_not, decide_eq_true_eq, beq_eq_false_iff_ne, ne_eq]
      omega
    obtain ⟨r, HR, hc⟩ := hc
    rw [HR.out]
    rcases hc with ⟨h0, rfl⟩ | ⟨rfl, h1, rfl⟩ | ⟨rfl, rfl, h2, rfl⟩ | ⟨rfl, rfl, h2, rfl⟩
    all_goals
      clear HR
      go_enter Try.func56, Try.ntmps56
      go_wp2
      go_ret
      exact ⟨retB (by first | rfl | (simp; omega)), (Below.refl _ _).alloc (Nat.le_refl _) _⟩
  · have hc : ∃ r b, Hid (mayBound y l s n = r) ∧ Hid (mayAcc y = b) ∧ ((b = false ∧ r = false) ∨ (b = true ∧ l < 0 ∧ r = false) ∨ (b = true ∧ 0 ≤ l ∧ s < 0 ∧ r = false) ∨ (b = true ∧ 0 ≤ l ∧ 0 ≤ s ∧ n < 0 ∧ r = false) ∨ (b = true ∧ 0 ≤ l ∧ 0 ≤ s ∧ 0 ≤ n ∧ r = true)) := by
      refine ⟨_, _, Lib.hid rfl, Lib.hid rfl, ?_⟩
      rw [mayBound, if_neg hy]
      cases hm : mayAcc y
      · exact .inl ⟨rfl, rfl⟩
      · simp only [Bool.true_and, decide_eq_false_iff_not, decide_eq_true_eq, true_and, reduceCtorEq, false_and, false_or]
        omega
    have hy' : (y == -1) = false := by simpa using hy
    obtain ⟨r, b, HR, HM, hc⟩ := hc
    rw [HR.out]
    clear hy
    rcases hc with ⟨rfl, rfl⟩ | ⟨rfl, h0, rfl⟩ | ⟨rfl, h0, h1, rfl⟩ | ⟨rfl, h0, h1, h2, rfl⟩ | ⟨rfl, h0, h1, h2, rfl⟩
    all_goals
      clear HR
      go_enter Try.func56, Try.ntmps56
      go_wp2_with fail
      refine Calls.mono (sym_is k o a y d q p l s n on z t HM.out _) ?_
      rintro e w1 ⟨rfl, hb⟩
      have hf := boxed hb
      obtain ⟨c0, c1, c2, c3, c4, c5, c6, c7, c8, c9, c10, c11, c12⟩ := cells13 hf
      have HB := Lib.hid (((Below.refl w.heap.size w).alloc (Nat.le_refl _) _).trans (hb.mono (by simp)))
      clear hb hf
      go_wp2_with fail
      go_ret
      exact ⟨retB (by first | rfl | (simp; omega)), HB.out⟩

theorem bound_is (k o a y d q p l s n : Int) (on : Bool) (z t : Int) {b : Bool} (h : mayBound y l s n = b) (w : World) : Calls Try.prog 56 #[.agg #[.int .i64 k, .int .i64 o, .int .i64 a, .int .i64 y, .int .i64 d, .int .i64 q, .int .i64 p, .int .i64 l, .int .i64 s, .int .i64 n, .bool on, .int .i64 z, .int .i64 t]] w fun e w' => e = .returned (.bool b) ∧ Below w.heap.size w w' := by
  have := bound_any k o a y d q p l s n on z t w
  rw [h] at this
  exact this

theorem tell_any (k o a y d q p l s n : Int) (on : Bool) (z t : Int) (w : World) : Calls Try.prog 57 #[.agg #[.int .i64 k, .int .i64 o, .int .i64 a, .int .i64 y, .int .i64 d, .int .i64 q, .int .i64 p, .int .i64 l, .int .i64 s, .int .i64 n, .bool on, .int .i64 z, .int .i64 t]] w fun e w' => e = .returned (.bool (mayTell t q p)) ∧ Below w.heap.size w w' := by
  by_cases h5 : t = 5
  · subst h5
    obtain ⟨b, HM⟩ : ∃ b, Hid (mayAsk q p = b) := ⟨_, Lib.hid rfl⟩
    have HR : Hid (mayTell 5 q p = b) := Lib.hid (by rw [← HM.out]; rfl)
    rw [HR.out]
    go_enter Try.func57, Try.ntmps57
    go_wp2_with fail
    refine Calls.mono (ask_is k o a y d q p l s n on z 5 HM.out _) ?_
    rintro e w1 ⟨rfl, hb⟩
    have HB := Lib.hid (((Below.refl w.heap.size w).alloc (Nat.le_refl _) _).trans (hb.mono (by simp)))
    clear hb
    go_wp2_with fail
    go_ret
    exact ⟨rfl, HB.out⟩
  by_cases h3 : t = 3
  · subst h3
    have hc : ∃ r, Hid (mayTell 3 q p = r) ∧ ((q < 1 ∧ r = false) ∨ (1 ≤ q ∧ (p == 0) = false ∧ r = false) ∨ (1 ≤ q ∧ p = 0 ∧ r = true)) := by
      refine ⟨_, Lib.hid rfl, ?_⟩
      rw [show mayTell 3 q p = decide (1 ≤ q ∧ p = 0) from rfl]
      simp only [decide_eq_false_iff_not, decide_eq_true_eq, beq_eq_false_iff_ne, ne_eq]
      omega
    obtain ⟨r, HR, hc⟩ := hc
    rw [HR.out]
    clear h5
    rcases hc with ⟨h0, rfl⟩ | ⟨h0, h1, rfl⟩ | ⟨h0, rfl, rfl⟩
    all_goals
      clear HR
      go_enter Try.func57, Try.ntmps57
      go_wp2
      go_ret
      exact ⟨retB (by first | rfl | (simp; omega)), (Below.refl _ _).alloc (Nat.le_refl _) _⟩
  by_cases h1 : t = 1
  · subst h1
    have hc : ∃ r, Hid (mayTell 1 q p = r) ∧ (((q == 0) = false ∧ r = false) ∨ (q = 0 ∧ (p == 0) = false ∧ r = false) ∨ (q = 0 ∧ p = 0 ∧ r = true)) := by
      refine ⟨_, Lib.hid rfl, ?_⟩
      rw [show mayTell 1 q p = decide (q = 0 ∧ p = 0) from rfl]
      simp only [decide_eq_false_iff_not, decide_eq_true_eq, beq_eq_false_iff_ne, ne_eq]
      omega
    obtain ⟨r, HR, hc⟩ := hc
    rw [HR.out]
    clear h5
    rcases hc with ⟨h0, rfl⟩ | ⟨rfl, h1, rfl⟩ | ⟨rfl, rfl, rfl⟩
    all_goals
      clear HR
      go_enter Try.func57, Try.ntmps57
      go_wp2
      go_ret
      exact ⟨retB (by first | rfl | (simp; omega)), (Below.refl _ _).alloc (Nat.le_refl _) _⟩
  by_cases h2 : t = 2
  · subst h2
    have hc : ∃ r, Hid (mayTell 2 q p = r) ∧ (((q == 0) = false ∧ r = false) ∨ (q = 0 ∧ (p == 0) = false ∧ r = false) ∨ (q = 0 ∧ p = 0 ∧ r = true)) := by
      refine ⟨_, Lib.hid rfl, ?_⟩
      rw [show mayTell 2 q p = decide (q = 0 ∧ p = 0) from rfl]
      simp only [decide_eq_false_iff_not, decide_eq_true_eq, beq_eq_false_iff_ne, ne_eq]
      omega
    obtain ⟨r, HR, hc⟩ := hc
    rw [HR.out]
    clear h5
    rcases hc with ⟨h0, rfl⟩ | ⟨rfl, h1, rfl⟩ | ⟨rfl, rfl, rfl⟩
    all_goals
      clear HR
      go_enter Try.func57, Try.ntmps57
      go_wp2
      go_ret
      exact ⟨retB (by first | rfl | (simp; omega)), (Below.refl _ _).alloc (Nat.le_refl _) _⟩
  by_cases h4 : t = 4
  · subst h4
    have hc : ∃ r, Hid (mayTell 4 q p = r) ∧ (((q == 0) = false ∧ r = false) ∨ (q = 0 ∧ (p == 0) = false ∧ r = false) ∨ (q = 0 ∧ p = 0 ∧ r = true)) := by
      refine ⟨_, Lib.hid rfl, ?_⟩
      rw [show mayTell 4 q p = decide (q = 0 ∧ p = 0) from rfl]
      simp only [decide_eq_false_iff_not, decide_eq_true_eq, beq_eq_false_iff_ne, ne_eq]
      omega
    obtain ⟨r, HR, hc⟩ := hc
    rw [HR.out]
    clear h5
    rcases hc with ⟨h0, rfl⟩ | ⟨rfl, h1, rfl⟩ | ⟨rfl, rfl, rfl⟩
    all_goals
      clear HR
      go_enter Try.func57, Try.ntmps57
      go_wp2
      go_ret
      exact ⟨retB (by first | rfl | (simp; omega)), (Below.refl _ _).alloc (Nat.le_refl _) _⟩
  by_cases h6 : t = 6
  · subst h6
    have hc : ∃ r, Hid (mayTell 6 q p = r) ∧ (((q == 0) = false ∧ r = false) ∨ (q = 0 ∧ (p == 0) = false ∧ r = false) ∨ (q = 0 ∧ p = 0 ∧ r = true)) := by
      refine ⟨_, Lib.hid rfl, ?_⟩
      rw [show mayTell 6 q p = decide (q = 0 ∧ p = 0) from rfl]
      simp only [decide_eq_false_iff_not, decide_eq_true_eq, beq_eq_false_iff_ne, ne_eq]
      omega
    obtain ⟨r, HR, hc⟩ := hc
    rw [HR.out]
    clear h5
    rcases hc with ⟨h0, rfl⟩ | ⟨rfl, h1, rfl⟩ | ⟨rfl, rfl, rfl⟩
    all_goals
      clear HR
      go_enter Try.func57, Try.ntmps57
      go_wp2
      go_ret
      exact ⟨retB (by first | rfl | (simp; omega)), (Below.refl _ _).alloc (Nat.le_refl _) _⟩
  have HR : Hid (mayTell t q p = false) := Lib.hid (by rw [mayTell, if_neg h3, if_neg h5, if_neg (by omega)])
  rw [HR.out]
  have e1 : (t == 1) = false := by simpa using h1
  have e2 : (t == 2) = false := by simpa using h2
  have e3 : (t == 3) = false := by simpa using h3
  have e4 : (t == 4) = false := by simpa using h4
  have e5 : (t == 5) = false := by simpa using h5
  have e6 : (t == 6) = false := by simpa using h6
  clear HR h1 h2 h3 h4 h5 h6
  go_enter Try.func57, Try.ntmps57
  go_wp2
  go_ret
  exact ⟨retB (by first | rfl | (simp; omega)), (Below.refl _ _).alloc (Nat.le_refl _) _⟩

theorem tell_is (k o a y d q p l s n : Int) (on : Bool) (z t : Int) {b : Bool} (h : mayTell t q p = b) (w : World) : Calls Try.prog 57 #[.agg #[.int .i64 k, .int .i64 o, .int .i64 a, .int .i64 y, .int .i64 d, .int .i64 q, .int .i64 p, .int .i64 l, .int .i64 s, .int .i64 n, .bool on, .int .i64 z, .int .i64 t]] w fun e w' => e = .returned (.bool b) ∧ Below w.heap.size w w' := by
  have := tell_any k o a y d q p l s n on z t w
  rw [h] at this
  exact this

theorem nums_is (k o a y d q p l s n : Int) (on : Bool) (z t : Int) {b0 b1 b2 b3 b4 b5 : Int} (h : nums ⟨k, o, a, y, d, q, p, l, s, n, on, z, t⟩ = ⟨b0, b1, b2, b3, b4, b5⟩) (w : World) : Calls Try.prog 45 #[.agg #[.int .i64 k, .int .i64 o, .int .i64 a, .int .i64 y, .int .i64 d, .int .i64 q, .int .i64 p, .int .i64 l, .int .i64 s, .int .i64 n, .bool on, .int .i64 z, .int .i64 t]] w fun e w' => e = .returned (.agg #[.int .i64 b0, .int .i64 b1, .int .i64 b2, .int .i64 b3, .int .i64 b4, .int .i64 b5]) ∧ Below w.heap.size w w' := by
  have hc : (k = 1 ∧ o = b0 ∧ a = b1 ∧ y = b2 ∧ d = b3 ∧ q = b4 ∧ p = b5) ∨ (k = 2 ∧ o = b0 ∧ q = b1 ∧ p = b2 ∧ 0 = b3 ∧ 0 = b4 ∧ 0 = b5) ∨ (k = 3 ∧ o = b0 ∧ 0 = b1 ∧ 0 = b2 ∧ 0 = b3 ∧ 0 = b4 ∧ 0 = b5) ∨ (k = 4 ∧ a = b0 ∧ y = b1 ∧ l = b2 ∧ s = b3 ∧ n = b4 ∧ 0 = b5)
      ∨ (k = 5 ∧ on = true ∧ 1 = b0 ∧ 0 = b1 ∧ 0 = b2 ∧ 0 = b3 ∧ 0 = b4 ∧ 0 = b5) ∨ (k = 5 ∧ on = false ∧ 0 = b0 ∧ 0 = b1 ∧ 0 = b2 ∧ 0 = b3 ∧ 0 = b4 ∧ 0 = b5) ∨ (k = 6 ∧ z = b0 ∧ t = b1 ∧ o = b2 ∧ q = b3 ∧ p = b4 ∧ 0 = b5)
      ∨ ((k == 1) = false ∧ (k == 2) = false ∧ (k == 3) = false ∧ (k == 4) = false ∧ (k == 5) = false ∧ (k == 6) = false ∧ 0 = b0 ∧ 0 = b1 ∧ 0 = b2 ∧ 0 = b3 ∧ 0 = b4 ∧ 0 = b5) := by
    unfold nums at h
    simp only at h
    by_cases h1 : k = 1
    · rw [if_pos h1] at h; simp only [Ns.mk.injEq] at h; exact .inl ⟨h1, h⟩
    by_cases h2 : k = 2
    · rw [if_neg h1, if_pos h2] at h; simp only [Ns.mk.injEq] at h; exact .inr (.inl ⟨h2, h⟩)
    by_cases h3 : k = 3
    · rw [if_neg h1, if_neg h2, if_pos h3] at h; simp only [Ns.mk.injEq] at h; exact .inr (.inr (.inl ⟨h3, h⟩))
    by_cases h4 : k = 4
    · rw [if_neg h1, if_neg h2, if_neg h3, if_pos h4] at h; simp only [Ns.mk.injEq] at h; exact .inr (.inr (.inr (.inl ⟨h4, h⟩)))
    by_cases h5 : k = 5
    · rw [if_neg h1, if_neg h2, if_neg h3, if_neg h4, if_pos h5] at h
      cases on
      · simp only [nz, Ns.mk.injEq, Bool.false_eq_true, if_false] at h; exact .inr (.inr (.inr (.inr (.inr (.inl ⟨h5, rfl, h⟩)))))
      · simp only [nz, Ns.mk.injEq, if_true] at h; exact .inr (.inr (.inr (.inr (.inl ⟨h5, rfl, h⟩))))
    by_cases h6 : k = 6
    · rw [if_neg h1, if_neg h2, if_neg h3, if_neg h4, if_neg h5, if_pos h6] at h; simp only [Ns.mk.injEq] at h; exact .inr (.inr (.inr (.inr (.inr (.inr (.inl ⟨h6, h⟩))))))
    · rw [if_neg h1, if_neg h2, if_neg h3, if_neg h4, if_neg h5, if_neg h6] at h; simp only [nz, Ns.mk.injEq] at h
      exact .inr (.inr (.inr (.inr (.inr (.inr (.inr ⟨by simpa using h1, by simpa using h2, by simpa using h3, by simpa using h4, by simpa using h5, by simpa using h6, h⟩))))))
  clear h
  rcases hc with ⟨rfl, rfl, rfl, rfl, rfl, rfl, rfl⟩ | ⟨rfl, rfl, rfl, rfl, rfl, rfl, rfl⟩ | ⟨rfl, rfl, rfl, rfl, rfl, rfl, rfl⟩ | ⟨rfl, rfl, rfl, rfl, rfl, rfl, rfl⟩ | ⟨rfl, rfl, rfl, rfl, rfl, rfl, rfl, rfl⟩ | ⟨rfl, rfl, rfl, rfl, rfl, rfl, rfl, rfl⟩ | ⟨rfl, rfl, rfl, rfl, rfl, rfl, rfl⟩ | ⟨h1, h2, h3, h4, h5, h6, rfl, rfl, rfl, rfl, rfl, rfl⟩
  · go_enter Try.func45, Try.ntmps45
    go_wp2
    exact bodyPost_ret (v := .agg #[.int .i64 o, .int .i64 a, .int .i64 y, .int .i64 d, .int .i64 q, .int .i64 p]) (by simp [results, Try.results45, go_sem]) rfl ⟨rfl, ((Below.refl _ _).alloc (Nat.le_refl _) _).alloc (by simp) _⟩
  · go_enter Try.func45, Try.ntmps45
    go_wp2
    exact bodyPost_ret (v := .agg #[.int .i64 o, .int .i64 q, .int .i64 p, .int .i64 0, .int .i64 0, .int .i64 0]) (by simp [results, Try.results45, go_sem]) rfl ⟨rfl, ((Below.refl _ _).alloc (Nat.le_refl _) _).alloc (by simp) _⟩
  · go_enter Try.func45, Try.ntmps45
    go_wp2
    exact bodyPost_ret (v := .agg #[.int .i64 o, .int .i64 0, .int .i64 0, .int .i64 0, .int .i64 0, .int .i64 0]) (by simp [results, Try.results45, go_sem]) rfl ⟨rfl, ((Below.refl _ _).alloc (Nat.le_refl _) _).alloc (by simp) _⟩
  · go_enter Try.func45, Try.ntmps45
    go_wp2
    exact bodyPost_ret (v := .agg #[.int .i64 a, .int .i64 y, .int .i64 l, .int .i64 s, .int .i64 n, .int .i64 0]) (by simp [results, Try.results45, go_sem]) rfl ⟨rfl, ((Below.refl _ _).alloc (Nat.le_refl _) _).alloc (by simp) _⟩
  · go_enter Try.func45, Try.ntmps45
    go_wp2
    exact bodyPost_ret (v := .agg #[.int .i64 1, .int .i64 0, .int .i64 0, .int .i64 0, .int .i64 0, .int .i64 0]) (by simp [results, Try.results45, go_sem]) rfl ⟨rfl, ((Below.refl _ _).alloc (Nat.le_refl _) _).alloc (by simp) _⟩
  · go_enter Try.func45, Try.ntmps45
    go_wp2
    exact bodyPost_ret (v := .agg #[.int .i64 0, .int .i64 0, .int .i64 0, .int .i64 0, .int .i64 0, .int .i64 0]) (by simp [results, Try.results45, go_sem]) rfl ⟨rfl, ((Below.refl _ _).alloc (Nat.le_refl _) _).alloc (by simp) _⟩
  · go_enter Try.func45, Try.ntmps45
    go_wp2
    exact bodyPost_ret (v := .agg #[.int .i64 z, .int .i64 t, .int .i64 o, .int .i64 q, .int .i64 p, .int .i64 0]) (by simp [results, Try.results45, go_sem]) rfl ⟨rfl, ((Below.refl _ _).alloc (Nat.le_refl _) _).alloc (by simp) _⟩
  · go_enter Try.func45, Try.ntmps45
    go_wp2
    exact bodyPost_ret (v := .agg #[.int .i64 0, .int .i64 0, .int .i64 0, .int .i64 0, .int .i64 0, .int .i64 0]) (by simp [results, Try.results45, go_sem]) rfl ⟨rfl, ((Below.refl _ _).alloc (Nat.le_refl _) _).alloc (by simp) _⟩

end Go.Proofs.Ytkpapjdlpjjmbaa.rec
