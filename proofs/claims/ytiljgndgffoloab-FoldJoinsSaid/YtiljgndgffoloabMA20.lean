/-
  RecEq13, RecImpl1, RecEq, Api06R, Api06, OrdEq, RecImpl2
-/
import Derived.Test.YtiljgndgffoloabMA19
import Derived.Test.YtiljgndgffoloabRows
import Derived.Test.YtiljgndgffoloabMA10
import Derived.Test.YtiljgndgffoloabMA05
import Derived.Test.YtiljgndgffoloabMA04
import Derived.Test.YtiljgndgffoloabMA11
section
namespace Go.Proofs.Ytiljgndgffoloab.rec
open Go.RowKit Go.Proofs.Ytiljgndgffoloab
open Go.Proofs.Ytiljgndgffoloab.frame (inR)
set_option linter.unusedVariables false

theorem run_eq13 (f g : Rc) (hf : f.fine) (hg : g.fine) (W : World) :
    (Op.equalIn 10000 37 (.agg (rc f)) (.agg (rc g))).run Try.prog W = .ok (decide (f = g)) W := by
  have c1 : Try.prog.cellsOf 2 = 1 := by kernel_rfl
  have c3 : Try.prog.cellsOf 3 = 1 := by kernel_rfl
  have cb : Try.prog.cellsOf 4 = 1 := by kernel_rfl
  have kl : ∀ f : Rc, f.fine → Try.prog.keyLits 3 37 (rc f).toList = some [.int .i64 f.k, .int .i64 f.o, .int .i64 f.a, .int .i64 f.y, .int .i64 f.d, .int .i64 f.q, .int .i64 f.p, .int .i64 f.l, .int .i64 f.s, .int .i64 f.n, .bool f.on, .int .i64 f.z, .int .i64 f.t] := fun f ⟨h0, h1, h2, h3, h4, h5, h6, h7, h8, h9, h10, h11⟩ => by
    rw [kl_struct 2 _ Try.underlying37 (by kernel_rfl) (by kernel_rfl)]
    simp [rc, c1, c3, cb, kl_int 1 _ Try.underlying2, kl_int 1 _ Try.underlying3, kl_bool 1 _ Try.underlying4, wf64 h0, wf64 h1, wf64 h2, wf64 h3, wf64 h4, wf64 h5, wf64 h6, wf64 h7, wf64 h8, wf64 h9, wf64 h10, wf64 h11]
  refine run_eq_by (by kernel_rfl) 3 (by kernel_rfl) (by kernel_rfl) (kl f hf) (kl g hg) _ ?_ W
  obtain ⟨k, o, a, y, d, q, p, l, s, n, on, z, t⟩ := f
  obtain ⟨k', o', a', y', d', q', p', l', s', n', on', z', t'⟩ := g
  simp

theorem eq13_of {k o a y d q p l s n : Int} {on : Bool} {z t : Int} {k' o' a' y' d' q' p' l' s' n' : Int} {on' : Bool} {z' t' : Int} {f g : Rc} {r : Bool} (h : (⟨k, o, a, y, d, q, p, l, s, n, on, z, t⟩ : Rc) = f) (h' : (⟨k', o', a', y', d', q', p', l', s', n', on', z', t'⟩ : Rc) = g) (hf : f.fine) (hg : g.fine) (hr : decide (f = g) = r) (W : World) :
    (Op.equalIn 10000 37 (.agg #[.int .i64 k, .int .i64 o, .int .i64 a, .int .i64 y, .int .i64 d, .int .i64 q, .int .i64 p, .int .i64 l, .int .i64 s, .int .i64 n, .bool on, .int .i64 z, .int .i64 t]) (.agg #[.int .i64 k', .int .i64 o', .int .i64 a', .int .i64 y', .int .i64 d', .int .i64 q', .int .i64 p', .int .i64 l', .int .i64 s', .int .i64 n', .bool on', .int .i64 z', .int .i64 t'])).run Try.prog W = .ok r W := by
  subst h h'
  rw [← hr]
  exact run_eq13 ⟨k, o, a, y, d, q, p, l, s, n, on, z, t⟩ ⟨k', o', a', y', d', q', p', l', s', n', on', z', t'⟩ hf hg W

end Go.Proofs.Ytiljgndgffoloab.rec
end
section
namespace Go.Proofs.Ytiljgndgffoloab.rec
open Go.RowKit Go.Proofs.Ytiljgndgffoloab
set_option linter.unusedVariables false
set_option linter.unusedSimpArgs false

theorem ord_any (k o a y d q p l s n : Int) (on : Bool) (z t : Int) (w : World) : Calls Try.prog 74 #[.agg #[.int .i64 k, .int .i64 o, .int .i64 a, .int .i64 y, .int .i64 d, .int .i64 q, .int .i64 p, .int .i64 l, .int .i64 s, .int .i64 n, .bool on, .int .i64 z, .int .i64 t]] w fun e w' => e = .returned (.bool (mayOrder o)) ∧ Below w.heap.size w w' := by
  have hc : ∃ r, Hid (mayOrder o = r) ∧ ((o < 1 ∧ r = false) ∨ (1 ≤ o ∧ 1000000000000 < o ∧ r = false) ∨ (1 ≤ o ∧ o ≤ 1000000000000 ∧ r = true)) := by
    refine ⟨_, Lib.hid rfl, ?_⟩
    simp only [mayOrder, decide_eq_false_iff_not, decide_eq_true_eq]
    omega
  obtain ⟨r, HR, hc⟩ := hc
  rw [HR.out]
  rcases hc with ⟨h0, rfl⟩ | ⟨h0, h1, rfl⟩ | ⟨h0, h1, rfl⟩
  all_goals
    clear HR
    go_enter Try.func74, Try.ntmps74
    go_wp2
    go_ret
    exact ⟨retB (by first | rfl | (simp; omega)), (Below.refl _ _).alloc (Nat.le_refl _) _⟩

theorem acc_any (k o a y d q p l s n : Int) (on : Bool) (z t : Int) (w : World) : Calls Try.prog 75 #[.agg #[.int .i64 k, .int .i64 o, .int .i64 a, .int .i64 y, .int .i64 d, .int .i64 q, .int .i64 p, .int .i64 l, .int .i64 s, .int .i64 n, .bool on, .int .i64 z, .int .i64 t]] w fun e w' => e = .returned (.bool (mayAcc a)) ∧ Below w.heap.size w w' := by
  have hc : ∃ r, Hid (mayAcc a = r) ∧ ((a < 0 ∧ r = false) ∨ (0 ≤ a ∧ 8 ≤ a ∧ r = false) ∨ (0 ≤ a ∧ a < 8 ∧ r = true)) := by
    refine ⟨_, Lib.hid rfl, ?_⟩
    simp only [mayAcc, decide_eq_false_iff_not, decide_eq_true_eq]
    omega
  obtain ⟨r, HR, hc⟩ := hc
  rw [HR.out]
  rcases hc with ⟨h0, rfl⟩ | ⟨h0, h1, rfl⟩ | ⟨h0, h1, rfl⟩
  all_goals
    clear HR
    go_enter Try.func75, Try.ntmps75
    go_wp2
    go_ret
    exact ⟨retB (by first | rfl | (simp; omega)), (Below.refl _ _).alloc (Nat.le_refl _) _⟩

theorem sym_any (k o a y d q p l s n : Int) (on : Bool) (z t : Int) (w : World) : Calls Try.prog 76 #[.agg #[.int .i64 k, .int .i64 o, .int .i64 a, .int .i64 y, .int .i64 d, .int .i64 q, .int .i64 p, .int .i64 l, .int .i64 s, .int .i64 n, .bool on, .int .i64 z, .int .i64 t]] w fun e w' => e = .returned (.bool (mayAcc y)) ∧ Below w.heap.size w w' := by
  have hc : ∃ r, Hid (mayAcc y = r) ∧ ((y < 0 ∧ r = false) ∨ (0 ≤ y ∧ 8 ≤ y ∧ r = false) ∨ (0 ≤ y ∧ y < 8 ∧ r = true)) := by
    refine ⟨_, Lib.hid rfl, ?_⟩
    simp only [mayAcc, decide_eq_false_iff_not, decide_eq_true_eq]
    omega
  obtain ⟨r, HR, hc⟩ := hc
  rw [HR.out]
  rcases hc with ⟨h0, rfl⟩ | ⟨h0, h1, rfl⟩ | ⟨h0, h1, rfl⟩
  all_goals
    clear HR
    go_enter Try.func76, Try.ntmps76
    go_wp2
    go_ret
    exact ⟨retB (by first | rfl | (simp; omega)), (Below.refl _ _).alloc (Nat.le_refl _) _⟩

theorem ask_any (k o a y d q p l s n : Int) (on : Bool) (z t : Int) (w : World) : Calls Try.prog 77 #[.agg #[.int .i64 k, .int .i64 o, .int .i64 a, .int .i64 y, .int .i64 d, .int .i64 q, .int .i64 p, .int .i64 l, .int .i64 s, .int .i64 n, .bool on, .int .i64 z, .int .i64 t]] w fun e w' => e = .returned (.bool (mayAsk q p)) ∧ Below w.heap.size w w' := by
  have hc : ∃ r, Hid (mayAsk q p = r) ∧ ((q < 1 ∧ r = false) ∨ (1 ≤ q ∧ p < 1 ∧ r = false) ∨ (1 ≤ q ∧ 1 ≤ p ∧ r = true)) := by
    refine ⟨_, Lib.hid rfl, ?_⟩
    simp only [mayAsk, decide_eq_false_iff_not, decide_eq_true_eq]
    omega
  obtain ⟨r, HR, hc⟩ := hc
  rw [HR.out]
  rcases hc with ⟨h0, rfl⟩ | ⟨h0, h1, rfl⟩ | ⟨h0, h1, rfl⟩
  all_goals
    clear HR
    go_enter Try.func77, Try.ntmps77
    go_wp2
    go_ret
    exact ⟨retB (by first | rfl | (simp; omega)), (Below.refl _ _).alloc (Nat.le_refl _) _⟩

end Go.Proofs.Ytiljgndgffoloab.rec
end
section
namespace Go.Proofs.Ytiljgndgffoloab.rec
open Go.RowKit Go.Proofs.Ytiljgndgffoloab
open Go.Proofs.Ytiljgndgffoloab.frame (inR)
set_option linter.unusedVariables false

end Go.Proofs.Ytiljgndgffoloab.rec
end
section
namespace Go.Proofs.Ytiljgndgffoloab
open Go.RowKit
set_option linter.unusedVariables false

abbrev RecD : Type := rec.Rc
def rdRec : Rd RecD := fun _ _ cs r => cs = (rec.rc r).toList ∧ r.fine
theorem of_rec : OfTrod Try.prog 37 rdRec := fun H enc w fuel cs x h => by
  have hl := struct_len Try.underlying37 h
  rw [show Try.prog.cellsOf 37 = 13 by kernel_rfl] at hl
  obtain ⟨k, e0, h0⟩ := of_field Try.underlying37 h 0 _ rfl 1 (by kernel_rfl) (of_int Try.underlying3)
  obtain ⟨o, e1, h1⟩ := of_field Try.underlying37 h 1 _ rfl 1 (by kernel_rfl) (of_int Try.underlying2)
  obtain ⟨a, e2, h2⟩ := of_field Try.underlying37 h 2 _ rfl 1 (by kernel_rfl) (of_int Try.underlying3)
  obtain ⟨y, e3, h3⟩ := of_field Try.underlying37 h 3 _ rfl 1 (by kernel_rfl) (of_int Try.underlying3)
  obtain ⟨d, e4, h4⟩ := of_field Try.underlying37 h 4 _ rfl 1 (by kernel_rfl) (of_int Try.underlying3)
  obtain ⟨q, e5, h5⟩ := of_field Try.underlying37 h 5 _ rfl 1 (by kernel_rfl) (of_int Try.underlying2)
  obtain ⟨p, e6, h6⟩ := of_field Try.underlying37 h 6 _ rfl 1 (by kernel_rfl) (of_int Try.underlying2)
  obtain ⟨l, e7, h7⟩ := of_field Try.underlying37 h 7 _ rfl 1 (by kernel_rfl) (of_int Try.underlying2)
  obtain ⟨s, e8, h8⟩ := of_field Try.underlying37 h 8 _ rfl 1 (by kernel_rfl) (of_int Try.underlying2)
  obtain ⟨n, e9, h9⟩ := of_field Try.underlying37 h 9 _ rfl 1 (by kernel_rfl) (of_int Try.underlying2)
  obtain ⟨on, e10⟩ := of_field Try.underlying37 h 10 _ rfl 1 (by kernel_rfl) (of_bool Try.underlying4)
  obtain ⟨z, e11, h11⟩ := of_field Try.underlying37 h 11 _ rfl 1 (by kernel_rfl) (of_int Try.underlying2)
  obtain ⟨t, e12, h12⟩ := of_field Try.underlying37 h 12 _ rfl 1 (by kernel_rfl) (of_int Try.underlying3)
  match cs, hl with
  | [c0, c1, c2, c3, c4, c5, c6, c7, c8, c9, c10, c11, c12], _ =>
    simp [rdBool] at e0 e1 e2 e3 e4 e5 e6 e7 e8 e9 e10 e11 e12
    subst e0 e1 e2 e3 e4 e5 e6 e7 e8 e9 e10 e11 e12
    exact ⟨⟨k, o, a, y, d, q, p, l, s, n, on, z, t⟩, rfl, inI_of_wf h0, inI_of_wf h1, inI_of_wf h2, inI_of_wf h3, inI_of_wf h4, inI_of_wf h5, inI_of_wf h6, inI_of_wf h7, inI_of_wf h8, inI_of_wf h9, inI_of_wf h11, inI_of_wf h12⟩

end Go.Proofs.Ytiljgndgffoloab
end
section
namespace Go.Proofs.Ytiljgndgffoloab
open Go.RowKit
set_option linter.unusedVariables false

/-- a note: its number, what it is, its order, how much, at which price. -/
structure NoteD where
  (z t o q p : Int)
  deriving DecidableEq
def nt (n : NoteD) : Array Value := #[.int .i64 n.z, .int .i64 n.t, .int .i64 n.o, .int .i64 n.q, .int .i64 n.p]
def NoteD.fine (n : NoteD) : Prop := frame.inR n.z ∧ frame.inR n.t ∧ frame.inR n.o ∧ frame.inR n.q ∧ frame.inR n.p
end Go.Proofs.Ytiljgndgffoloab
end
section
namespace Go.Proofs.Ytiljgndgffoloab.order

end Go.Proofs.Ytiljgndgffoloab.order
end
section
namespace Go.Proofs.Ytiljgndgffoloab.rec
open Go.RowKit Go.Proofs.Ytiljgndgffoloab
set_option linter.unusedVariables false
set_option linter.unusedSimpArgs false

theorem ord_is (k o a y d q p l s n : Int) (on : Bool) (z t : Int) {b : Bool} (h : mayOrder o = b) (w : World) : Calls Try.prog 74 #[.agg #[.int .i64 k, .int .i64 o, .int .i64 a, .int .i64 y, .int .i64 d, .int .i64 q, .int .i64 p, .int .i64 l, .int .i64 s, .int .i64 n, .bool on, .int .i64 z, .int .i64 t]] w fun e w' => e = .returned (.bool b) ∧ Below w.heap.size w w' := by
  have := ord_any k o a y d q p l s n on z t w
  rw [h] at this
  exact this

theorem acc_is (k o a y d q p l s n : Int) (on : Bool) (z t : Int) {b : Bool} (h : mayAcc a = b) (w : World) : Calls Try.prog 75 #[.agg #[.int .i64 k, .int .i64 o, .int .i64 a, .int .i64 y, .int .i64 d, .int .i64 q, .int .i64 p, .int .i64 l, .int .i64 s, .int .i64 n, .bool on, .int .i64 z, .int .i64 t]] w fun e w' => e = .returned (.bool b) ∧ Below w.heap.size w w' := by
  have := acc_any k o a y d q p l s n on z t w
  rw [h] at this
  exact this

theorem sym_is (k o a y d q p l s n : Int) (on : Bool) (z t : Int) {b : Bool} (h : mayAcc y = b) (w : World) : Calls Try.prog 76 #[.agg #[.int .i64 k, .int .i64 o, .int .i64 a, .int .i64 y, .int .i64 d, .int .i64 q, .int .i64 p, .int .i64 l, .int .i64 s, .int .i64 n, .bool on, .int .i64 z, .int .i64 t]] w fun e w' => e = .returned (.bool b) ∧ Below w.heap.size w w' := by
  have := sym_any k o a y d q p l s n on z t w
  rw [h] at this
  exact this

theorem ask_is (k o a y d q p l s n : Int) (on : Bool) (z t : Int) {b : Bool} (h : mayAsk q p = b) (w : World) : Calls Try.prog 77 #[.agg #[.int .i64 k, .int .i64 o, .int .i64 a, .int .i64 y, .int .i64 d, .int .i64 q, .int .i64 p, .int .i64 l, .int .i64 s, .int .i64 n, .bool on, .int .i64 z, .int .i64 t]] w fun e w' => e = .returned (.bool b) ∧ Below w.heap.size w w' := by
  have := ask_any k o a y d q p l s n on z t w
  rw [h] at this
  exact this

theorem bound_any (k o a y d q p l s n : Int) (on : Bool) (z t : Int) (w : World) : Calls Try.prog 78 #[.agg #[.int .i64 k, .int .i64 o, .int .i64 a, .int .i64 y, .int .i64 d, .int .i64 q, .int .i64 p, .int .i64 l, .int .i64 s, .int .i64 n, .bool on, .int .i64 z, .int .i64 t]] w fun e w' => e = .returned (.bool (mayBound y l s n)) ∧ Below w.heap.size w w' := by
  by_cases hy : y = -1
  · subst hy
    have hc : ∃ r, Hid (mayBound (-1) l s n = r) ∧ (((l == 0) = false ∧ r = false) ∨ (l = 0 ∧ (s == 0) = false ∧ r = false) ∨ (l = 0 ∧ s = 0 ∧ n < 0 ∧ r = false) ∨ (l = 0 ∧ s = 0 ∧ 0 ≤ n ∧ r = true)) := by
      refine ⟨_, Lib.hid rfl, ?_⟩
      simp only [mayBound, if_true, decide_eq_false_iff_not, decide_eq_true_eq, beq_eq_false_iff_ne, ne_eq]
      omega
    obtain ⟨r, HR, hc⟩ := hc
    rw [HR.out]
    rcases hc with ⟨h0, rfl⟩ | ⟨rfl, h1, rfl⟩ | ⟨rfl, rfl, h2, rfl⟩ | ⟨rfl, rfl, h2, rfl⟩
    all_goals
      clear HR
      go_enter Try.func78, Try.ntmps78
      go_wp2
      go_ret
      exact ⟨retB (by first | rfl | (simp; omega)), (Below.refl _ _).alloc (Nat.le_refl _) _⟩
  · have hc : ∃ r b, Hid (mayBound y l s n = r) ∧ Hid (mayAcc y = b) ∧ ((b = false ∧ r = false) ∨ (b = true ∧ l < 0 ∧ r = false) ∨ (b = true ∧ 0 ≤ l ∧ s < 0 ∧ r = false) ∨ (b = true ∧ 0 ≤ l ∧ 0 ≤ s ∧ n < 0 ∧ r = false) ∨ (b = true ∧ 0 ≤ l ∧ 0 ≤ s ∧ 0 ≤ n ∧ r = true)) := by
      refine ⟨_, _, Lib.hid rfl, Lib.hid rfl, ?_⟩
      rw [mayBound, if_neg hy]
      cases hm : mayAcc y
      · exact .inl ⟨rfl, rfl⟩
      · simp only [Bool.true_and, decide_eq_false_iff_not, decide_eq_true_eq, true_and, reduceCtorEq, false_and, false_or]
        omega
    have hy' : (y == -1) = false := by simpa using hy
    obtain ⟨r, b, HR, HM, hc⟩ := hc
    rw [HR.out]
    clear hy
    rcases hc with ⟨rfl, rfl⟩ | ⟨rfl, h0, rfl⟩ | ⟨rfl, h0, h1, rfl⟩ | ⟨rfl, h0, h1, h2, rfl⟩ | ⟨rfl, h0, h1, h2, rfl⟩
    all_goals
      clear HR
      go_enter Try.func78, Try.ntmps78
      go_wp2_with fail
      refine Calls.mono (sym_is k o a y d q p l s n on z t HM.out _) ?_
      rintro e w1 ⟨rfl, hb⟩
      have hf := boxed hb
      obtain ⟨c0, c1, c2, c3, c4, c5, c6, c7, c8, c9, c10, c11, c12⟩ := cells13 hf
      have HB := Lib.hid (((Below.refl w.heap.size w).alloc (Nat.le_refl _) _).trans (hb.mono (by simp)))
      clear hb hf
      go_wp2_with fail
      go_ret
      exact ⟨retB (by first | rfl | (simp; omega)), HB.out⟩

theorem bound_is (k o a y d q p l s n : Int) (on : Bool) (z t : Int) {b : Bool} (h : mayBound y l s n = b) (w : World) : Calls Try.prog 78 #[.agg #[.int .i64 k, .int .i64 o, .int .i64 a, .int .i64 y, .int .i64 d, .int .i64 q, .int .i64 p, .int .i64 l, .int .i64 s, .int .i64 n, .bool on, .int .i64 z, .int .i64 t]] w fun e w' => e = .returned (.bool b) ∧ Below w.heap.size w w' := by
  have := bound_any k o a y d q p l s n on z t w
  rw [h] at this
  exact this

theorem tell_any (k o a y d q p l s n : Int) (on : Bool) (z t : Int) (w : World) : Calls Try.prog 79 #[.agg #[.int .i64 k, .int .i64 o, .int .i64 a, .int .i64 y, .int .i64 d, .int .i64 q, .int .i64 p, .int .i64 l, .int .i64 s, .int .i64 n, .bool on, .int .i64 z, .int .i64 t]] w fun e w' => e = .returned (.bool (mayTell t q p)) ∧ Below w.heap.size w w' := by
  by_cases h5 : t = 5
  · subst h5
    obtain ⟨b, HM⟩ : ∃ b, Hid (mayAsk q p = b) := ⟨_, Lib.hid rfl⟩
    have HR : Hid (mayTell 5 q p = b) := Lib.hid (by rw [← HM.out]; rfl)
    rw [HR.out]
    go_enter Try.func79, Try.ntmps79
    go_wp2_with fail
    refine Calls.mono (ask_is k o a y d q p l s n on z 5 HM.out _) ?_
    rintro e w1 ⟨rfl, hb⟩
    have HB := Lib.hid (((Below.refl w.heap.size w).alloc (Nat.le_refl _) _).trans (hb.mono (by simp)))
    clear hb
    go_wp2_with fail
    go_ret
    exact ⟨rfl, HB.out⟩
  by_cases h3 : t = 3
  · subst h3
    have hc : ∃ r, Hid (mayTell 3 q p = r) ∧ ((q < 1 ∧ r = false) ∨ (1 ≤ q ∧ (p == 0) = false ∧ r = false) ∨ (1 ≤ q ∧ p = 0 ∧ r = true)) := by
      refine ⟨_, Lib.hid rfl, ?_⟩
      rw [show mayTell 3 q p = decide (1 ≤ q ∧ p = 0) from rfl]
      simp only [decide_eq_false_iff_not, decide_eq_true_eq, beq_eq_false_iff_ne, ne_eq]
      omega
    obtain ⟨r, HR, hc⟩ := hc
    rw [HR.out]
    clear h5
    rcases hc with ⟨h0, rfl⟩ | ⟨h0, h1, rfl⟩ | ⟨h0, rfl, rfl⟩
    all_goals
      clear HR
      go_enter Try.func79, Try.ntmps79
      go_wp2
      go_ret
      exact ⟨retB (by first | rfl | (simp; omega)), (Below.refl _ _).alloc (Nat.le_refl _) _⟩
  by_cases h1 : t = 1
  · subst h1
    have hc : ∃ r, Hid (mayTell 1 q p = r) ∧ (((q == 0) = false ∧ r = false) ∨ (q = 0 ∧ (p == 0) = false ∧ r = false) ∨ (q = 0 ∧ p = 0 ∧ r = true)) := by
      refine ⟨_, Lib.hid rfl, ?_⟩
      rw [show mayTell 1 q p = decide (q = 0 ∧ p = 0) from rfl]
      simp only [decide_eq_false_iff_not, decide_eq_true_eq, beq_eq_false_iff_ne, ne_eq]
      omega
    obtain ⟨r, HR, hc⟩ := hc
    rw [HR.out]
    clear h5
    rcases hc with ⟨h0, rfl⟩ | ⟨rfl, h1, rfl⟩ | ⟨rfl, rfl, rfl⟩
    all_goals
      clear HR
      go_enter Try.func79, Try.ntmps79
      go_wp2
      go_ret
      exact ⟨retB (by first | rfl | (simp; omega)), (Below.refl _ _).alloc (Nat.le_refl _) _⟩
  by_cases h2 : t = 2
  · subst h2
    have hc : ∃ r, Hid (mayTell 2 q p = r) ∧ (((q == 0) = false ∧ r = false) ∨ (q = 0 ∧ (p == 0) = false ∧ r = false) ∨ (q = 0 ∧ p = 0 ∧ r = true)) := by
      refine ⟨_, Lib.hid rfl, ?_⟩
      rw [show mayTell 2 q p = decide (q = 0 ∧ p = 0) from rfl]
      simp only [decide_eq_false_iff_not, decide_eq_true_eq, beq_eq_false_iff_ne, ne_eq]
      omega
    obtain ⟨r, HR, hc⟩ := hc
    rw [HR.out]
    clear h5
    rcases hc with ⟨h0, rfl⟩ | ⟨rfl, h1, rfl⟩ | ⟨rfl, rfl, rfl⟩
    all_goals
      clear HR
      go_enter Try.func79, Try.ntmps79
      go_wp2
      go_ret
      exact ⟨retB (by first | rfl | (simp; omega)), (Below.refl _ _).alloc (Nat.le_refl _) _⟩
  by_cases h4 : t = 4
  · subst h4
    have hc : ∃ r, Hid (mayTell 4 q p = r) ∧ (((q == 0) = false ∧ r = false) ∨ (q = 0 ∧ (p == 0) = false ∧ r = false) ∨ (q = 0 ∧ p = 0 ∧ r = true)) := by
      refine ⟨_, Lib.hid rfl, ?_⟩
      rw [show mayTell 4 q p = decide (q = 0 ∧ p = 0) from rfl]
      simp only [decide_eq_false_iff_not, decide_eq_true_eq, beq_eq_false_iff_ne, ne_eq]
      omega
    obtain ⟨r, HR, hc⟩ := hc
    rw [HR.out]
    clear h5
    rcases hc with ⟨h0, rfl⟩ | ⟨rfl, h1, rfl⟩ | ⟨rfl, rfl, rfl⟩
    all_goals
      clear HR
      go_enter Try.func79, Try.ntmps79
      go_wp2
      go_ret
      exact ⟨retB (by first | rfl | (simp; omega)), (Below.refl _ _).alloc (Nat.le_refl _) _⟩
  by_cases h6 : t = 6
  · subst h6
    have hc : ∃ r, Hid (mayTell 6 q p = r) ∧ (((q == 0) = false ∧ r = false) ∨ (q = 0 ∧ (p == 0) = false ∧ r = false) ∨ (q = 0 ∧ p = 0 ∧ r = true)) := by
      refine ⟨_, Lib.hid rfl, ?_⟩
      rw [show mayTell 6 q p = decide (q = 0 ∧ p = 0) from rfl]
      simp only [decide_eq_false_iff_not, decide_eq_true_eq, beq_eq_false_iff_ne, ne_eq]
      omega
    obtain ⟨r, HR, hc⟩ := hc
    rw [HR.out]
    clear h5
    rcases hc with ⟨h0, rfl⟩ | ⟨rfl, h1, rfl⟩ | ⟨rfl, rfl, rfl⟩
    all_goals
      clear HR
      go_enter Try.func79, Try.ntmps79
      go_wp2
      go_ret
      exact ⟨retB (by first | rfl | (simp; omega)), (Below.refl _ _).alloc (Nat.le_refl _) _⟩
  have HR : Hid (mayTell t q p = false) := Lib.hid (by rw [mayTell, if_neg h3, if_neg h5, if_neg (by omega)])
  rw [HR.out]
  have e1 : (t == 1) = false := by simpa using h1
  have e2 : (t == 2) = false := by simpa using h2
  have e3 : (t == 3) = false := by simpa using h3
  have e4 : (t == 4) = false := by simpa using h4
  have e5 : (t == 5) = false := by simpa using h5
  have e6 : (t == 6) = false := by simpa using h6
  clear HR h1 h2 h3 h4 h5 h6
  go_enter Try.func79, Try.ntmps79
  go_wp2
  go_ret
  exact ⟨retB (by first | rfl | (simp; omega)), (Below.refl _ _).alloc (Nat.le_refl _) _⟩

theorem tell_is (k o a y d q p l s n : Int) (on : Bool) (z t : Int) {b : Bool} (h : mayTell t q p = b) (w : World) : Calls Try.prog 79 #[.agg #[.int .i64 k, .int .i64 o, .int .i64 a, .int .i64 y, .int .i64 d, .int .i64 q, .int .i64 p, .int .i64 l, .int .i64 s, .int .i64 n, .bool on, .int .i64 z, .int .i64 t]] w fun e w' => e = .returned (.bool b) ∧ Below w.heap.size w w' := by
  have := tell_any k o a y d q p l s n on z t w
  rw [h] at this
  exact this

theorem nums_is (k o a y d q p l s n : Int) (on : Bool) (z t : Int) {b0 b1 b2 b3 b4 b5 : Int} (h : nums ⟨k, o, a, y, d, q, p, l, s, n, on, z, t⟩ = ⟨b0, b1, b2, b3, b4, b5⟩) (w : World) : Calls Try.prog 60 #[.agg #[.int .i64 k, .int .i64 o, .int .i64 a, .int .i64 y, .int .i64 d, .int .i64 q, .int .i64 p, .int .i64 l, .int .i64 s, .int .i64 n, .bool on, .int .i64 z, .int .i64 t]] w fun e w' => e = .returned (.agg #[.int .i64 b0, .int .i64 b1, .int .i64 b2, .int .i64 b3, .int .i64 b4, .int .i64 b5]) ∧ Below w.heap.size w w' := by
  have hc : (k = 1 ∧ o = b0 ∧ a = b1 ∧ y = b2 ∧ d = b3 ∧ q = b4 ∧ p = b5) ∨ (k = 2 ∧ o = b0 ∧ q = b1 ∧ p = b2 ∧ 0 = b3 ∧ 0 = b4 ∧ 0 = b5) ∨ (k = 3 ∧ o = b0 ∧ 0 = b1 ∧ 0 = b2 ∧ 0 = b3 ∧ 0 = b4 ∧ 0 = b5) ∨ (k = 4 ∧ a = b0 ∧ y = b1 ∧ l = b2 ∧ s = b3 ∧ n = b4 ∧ 0 = b5)
      ∨ (k = 5 ∧ on = true ∧ 1 = b0 ∧ 0 = b1 ∧ 0 = b2 ∧ 0 = b3 ∧ 0 = b4 ∧ 0 = b5) ∨ (k = 5 ∧ on = false ∧ 0 = b0 ∧ 0 = b1 ∧ 0 = b2 ∧ 0 = b3 ∧ 0 = b4 ∧ 0 = b5) ∨ (k = 6 ∧ z = b0 ∧ t = b1 ∧ o = b2 ∧ q = b3 ∧ p = b4 ∧ 0 = b5)
      ∨ ((k == 1) = false ∧ (k == 2) = false ∧ (k == 3) = false ∧ (k == 4) = false ∧ (k == 5) = false ∧ (k == 6) = false ∧ 0 = b0 ∧ 0 = b1 ∧ 0 = b2 ∧ 0 = b3 ∧ 0 = b4 ∧ 0 = b5) := by
    unfold nums at h
    simp only at h
    by_cases h1 : k = 1
    · rw [if_pos h1] at h; simp only [Ns.mk.injEq] at h; exact .inl ⟨h1, h⟩
    by_cases h2 : k = 2
    · rw [if_neg h1, if_pos h2] at h; simp only [Ns.mk.injEq] at h; exact .inr (.inl ⟨h2, h⟩)
    by_cases h3 : k = 3
    · rw [if_neg h1, if_neg h2, if_pos h3] at h; simp only [Ns.mk.injEq] at h; exact .inr (.inr (.inl ⟨h3, h⟩))
    by_cases h4 : k = 4
    · rw [if_neg h1, if_neg h2, if_neg h3, if_pos h4] at h; simp only [Ns.mk.injEq] at h; exact .inr (.inr (.inr (.inl ⟨h4, h⟩)))
    by_cases h5 : k = 5
    · rw [if_neg h1, if_neg h2, if_neg h3, if_neg h4, if_pos h5] at h
      cases on
      · simp only [nz, Ns.mk.injEq, Bool.false_eq_true, if_false] at h; exact .inr (.inr (.inr (.inr (.inr (.inl ⟨h5, rfl, h⟩)))))
      · simp only [nz, Ns.mk.injEq, if_true] at h; exact .inr (.inr (.inr (.inr (.inl ⟨h5, rfl, h⟩))))
    by_cases h6 : k = 6
    · rw [if_neg h1, if_neg h2, if_neg h3, if_neg h4, if_neg h5, if_pos h6] at h; simp only [Ns.mk.injEq] at h; exact .inr (.inr (.inr (.inr (.inr (.inr (.inl ⟨h6, h⟩))))))
    · rw [if_neg h1, if_neg h2, if_neg h3, if_neg h4, if_neg h5, if_neg h6] at h; simp only [nz, Ns.mk.injEq] at h
      exact .inr (.inr (.inr (.inr (.inr (.inr (.inr ⟨by simpa using h1, by simpa using h2, by simpa using h3, by simpa using h4, by simpa using h5, by simpa using h6, h⟩))))))
  clear h
  rcases hc with ⟨rfl, rfl, rfl, rfl, rfl, rfl, rfl⟩ | ⟨rfl, rfl, rfl, rfl, rfl, rfl, rfl⟩ | ⟨rfl, rfl, rfl, rfl, rfl, rfl, rfl⟩ | ⟨rfl, rfl, rfl, rfl, rfl, rfl, rfl⟩ | ⟨rfl, rfl, rfl, rfl, rfl, rfl, rfl, rfl⟩ | ⟨rfl, rfl, rfl, rfl, rfl, rfl, rfl, rfl⟩ | ⟨rfl, rfl, rfl, rfl, rfl, rfl, rfl⟩ | ⟨h1, h2, h3, h4, h5, h6, rfl, rfl, rfl, rfl, rfl, rfl⟩
  · go_enter Try.func60, Try.ntmps60
    go_wp2
    exact bodyPost_ret (v := .agg #[.int .i64 o, .int .i64 a, .int .i64 y, .int .i64 d, .int .i64 q, .int .i64 p]) (by simp [results, Try.results60, go_sem]) rfl ⟨rfl, ((Below.refl _ _).alloc (Nat.le_refl _) _).alloc (by simp) _⟩
  · go_enter Try.func60, Try.ntmps60
    go_wp2
    exact bodyPost_ret (v := .agg #[.int .i64 o, .int .i64 q, .int .i64 p, .int .i64 0, .int .i64 0, .int .i64 0]) (by simp [results, Try.results60, go_sem]) rfl ⟨rfl, ((Below.refl _ _).alloc (Nat.le_refl _) _).alloc (by simp) _⟩
  · go_enter Try.func60, Try.ntmps60
    go_wp2
    exact bodyPost_ret (v := .agg #[.int .i64 o, .int .i64 0, .int .i64 0, .int .i64 0, .int .i64 0, .int .i64 0]) (by simp [results, Try.results60, go_sem]) rfl ⟨rfl, ((Below.refl _ _).alloc (Nat.le_refl _) _).alloc (by simp) _⟩
  · go_enter Try.func60, Try.ntmps60
    go_wp2
    exact bodyPost_ret (v := .agg #[.int .i64 a, .int .i64 y, .int .i64 l, .int .i64 s, .int .i64 n, .int .i64 0]) (by simp [results, Try.results60, go_sem]) rfl ⟨rfl, ((Below.refl _ _).alloc (Nat.le_refl _) _).alloc (by simp) _⟩
  · go_enter Try.func60, Try.ntmps60
    go_wp2
    exact bodyPost_ret (v := .agg #[.int .i64 1, .int .i64 0, .int .i64 0, .int .i64 0, .int .i64 0, .int .i64 0]) (by simp [results, Try.results60, go_sem]) rfl ⟨rfl, ((Below.refl _ _).alloc (Nat.le_refl _) _).alloc (by simp) _⟩
  · go_enter Try.func60, Try.ntmps60
    go_wp2
    exact bodyPost_ret (v := .agg #[.int .i64 0, .int .i64 0, .int .i64 0, .int .i64 0, .int .i64 0, .int .i64 0]) (by simp [results, Try.results60, go_sem]) rfl ⟨rfl, ((Below.refl _ _).alloc (Nat.le_refl _) _).alloc (by simp) _⟩
  · go_enter Try.func60, Try.ntmps60
    go_wp2
    exact bodyPost_ret (v := .agg #[.int .i64 z, .int .i64 t, .int .i64 o, .int .i64 q, .int .i64 p, .int .i64 0]) (by simp [results, Try.results60, go_sem]) rfl ⟨rfl, ((Below.refl _ _).alloc (Nat.le_refl _) _).alloc (by simp) _⟩
  · go_enter Try.func60, Try.ntmps60
    go_wp2
    exact bodyPost_ret (v := .agg #[.int .i64 0, .int .i64 0, .int .i64 0, .int .i64 0, .int .i64 0, .int .i64 0]) (by simp [results, Try.results60, go_sem]) rfl ⟨rfl, ((Below.refl _ _).alloc (Nat.le_refl _) _).alloc (by simp) _⟩

end Go.Proofs.Ytiljgndgffoloab.rec
end
