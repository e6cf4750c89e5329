/-
  Sums, one behind the other, till one is none of the numbers: words, over no function.
-/
import Derived.Test.YtiebaiehoebhfaaBase
import Derived.Test.YtiebaiehoebhfaaNumWords
namespace Go.Proofs.Ytiebaiehoebhfaa.num
open Go.RowKit
set_option linter.unusedVariables false

/-- s, to which each is added; none, if one of these sums is none of the numbers. -/
def tot (s : Int) : List Int → Option Int
  | [] => some s
  | x :: r => if inI (s + x) then tot (s + x) r else none
/-- the two results that stand for it. -/
def totV (o : Option Int) : Int := o.getD 0
def totE (o : Option Int) : Int := if o.isSome then 0 else 3

theorem tot_in (s : Int) (xs : List Int) (r : Int) (hs : inI s) (h : tot s xs = some r) : inI r := by
  induction xs generalizing s with
  | nil => simp [tot] at h; exact h ▸ hs
  | cons x xs ih =>
    unfold tot at h
    by_cases hx : inI (s + x)
    · rw [if_pos hx] at h; exact ih _ hx h
    · rw [if_neg hx] at h; cases h

theorem drop_at {xs : List Int} {k : Nat} {x : Int} (h : xs[k]? = some x) : xs.drop k = x :: xs.drop (k + 1) := by
  obtain ⟨hk, rfl⟩ := List.getElem?_eq_some_iff.1 h
  rw [List.drop_eq_getElem_cons hk]

theorem tot_yes {xs : List Int} {k : Nat} {x : Int} (s : Int) (h : xs[k]? = some x) (hi : inI (s + x)) : tot s (xs.drop k) = tot (s + x) (xs.drop (k + 1)) := by
  rw [drop_at h]; unfold tot; rw [if_pos hi]; cases xs.drop (k + 1) <;> rfl
theorem tot_no {xs : List Int} {k : Nat} {x : Int} (s : Int) (h : xs[k]? = some x) (hi : ¬ inI (s + x)) : tot s (xs.drop k) = none := by
  rw [drop_at h]; unfold tot; rw [if_neg hi]

theorem tot_append (s : Int) (a b : List Int) : tot s (a ++ b) = (tot s a).bind fun r => tot r b := by
  induction a generalizing s with
  | nil => rfl
  | cons x a ih =>
    show (if inI (s + x) then tot (s + x) (a ++ b) else none) = (if inI (s + x) then tot (s + x) a else none).bind _
    by_cases h : inI (s + x)
    · rw [if_pos h, if_pos h, ih]
    · rw [if_neg h, if_neg h]; rfl

/-- of numbers from 0 on the total is their sum, if that is one of the numbers. -/
theorem tot_nonneg (s : Int) (xs : List Int) (hs : 0 ≤ s) (hi : inI s) (hx : ∀ x ∈ xs, 0 ≤ x) :
    0 ≤ xs.sum ∧ tot s xs = if s + xs.sum ≤ 9223372036854775807 then some (s + xs.sum) else none := by
  induction xs generalizing s with
  | nil => unfold inI at hi; simp [tot]; omega
  | cons x xs ih =>
    have h0 := hx x (by simp)
    have hr : ∀ y ∈ xs, 0 ≤ y := fun y hy => hx y (by simp [hy])
    have hsum := (ih 0 (by omega) (by unfold inI; omega) hr).1
    rw [List.sum_cons]
    refine ⟨by omega, ?_⟩
    show (if inI (s + x) then tot (s + x) xs else none) = _
    by_cases h : inI (s + x)
    · rw [if_pos h, (ih (s + x) (by omega) h hr).2, Int.add_assoc]
    · rw [if_neg h, if_neg (by unfold inI at *; omega)]

theorem sum_reverse (xs : List Int) : xs.reverse.sum = xs.sum := by
  induction xs with
  | nil => rfl
  | cons x xs ih => simp [List.sum_append, ih]; omega

theorem tot_reverse (xs : List Int) (hx : ∀ x ∈ xs, 0 ≤ x) : tot 0 xs.reverse = tot 0 xs := by
  rw [(tot_nonneg 0 xs.reverse (by omega) (by unfold inI; omega) (fun x h => hx x (by simpa using h))).2, (tot_nonneg 0 xs (by omega) (by unfold inI; omega) hx).2, sum_reverse]

/-- a beginning's total is no more. -/
theorem tot_begin (xs : List Int) (k : Nat) (h a : Int) (hx : ∀ x ∈ xs, 0 ≤ x) (h1 : tot 0 (xs.take k) = some h) (h2 : tot 0 xs = some a) : h ≤ a := by
  have e : tot 0 xs = tot h (xs.drop k) := by
    conv => lhs; rw [← List.take_append_drop k xs]
    rw [tot_append, h1]; rfl
  have i0 : inI h := tot_in 0 _ h (by unfold inI; omega) h1
  have hp : 0 ≤ h := by
    have := tot_nonneg 0 (xs.take k) (by omega) (by unfold inI; omega) (fun x hm => hx x (List.mem_of_mem_take hm))
    rw [h1] at this
    have hs := this.1
    by_cases hc : 0 + (xs.take k).sum ≤ 9223372036854775807
    · rw [if_pos hc] at this; have := this.2; simp at this; omega
    · rw [if_neg hc] at this; cases this.2
  have hd := tot_nonneg h (xs.drop k) hp i0 (fun x hm => hx x (List.mem_of_mem_drop hm))
  rw [← e, h2] at hd
  by_cases hc : h + (xs.drop k).sum ≤ 9223372036854775807
  · rw [if_pos hc] at hd; have := hd.1; have := hd.2; simp at this; omega
  · rw [if_neg hc] at hd; cases hd.2

theorem ret2 {k l : IntKind} {a b c d : Int} (h : a = b) (g : c = d) : Ending.returned (.tuple #[.int k a, .int l c]) = .returned (.tuple #[.int k b, .int l d]) := by rw [h, g]

end Go.Proofs.Ytiebaiehoebhfaa.num
