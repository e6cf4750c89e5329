/-
  Contract of num.Total: the sums, one behind the other, till one is none of the numbers.
-/
import Derived.Test.YtcbnmdkjlffogaaNum
namespace Go.Proofs.Ytcbnmdkjlffogaa.num
open Go.RowKit
set_option linter.unusedVariables false

/-- s, to which each is added; none, if one of these sums is none of the numbers. -/
def tot (s : Int) : List Int → Option Int
  | [] => some s
  | x :: r => if inI (s + x) then tot (s + x) r else none
/-- the two results that stand for it. -/
def totV (o : Option Int) : Int := o.getD 0
def totE (o : Option Int) : Int := if o.isSome then 0 else 3

theorem tot_in (s : Int) (xs : List Int) (r : Int) (hs : inI s) (h : tot s xs = some r) : inI r := by
  induction xs generalizing s with
  | nil => simp [tot] at h; exact h ▸ hs
  | cons x xs ih =>
    unfold tot at h
    by_cases hx : inI (s + x)
    · rw [if_pos hx] at h; exact ih _ hx h
    · rw [if_neg hx] at h; cases h

theorem drop_at {xs : List Int} {k : Nat} {x : Int} (h : xs[k]? = some x) : xs.drop k = x :: xs.drop (k + 1) := by
  obtain ⟨hk, rfl⟩ := List.getElem?_eq_some_iff.1 h
  rw [List.drop_eq_getElem_cons hk]

theorem tot_yes {xs : List Int} {k : Nat} {x : Int} (s : Int) (h : xs[k]? = some x) (hi : inI (s + x)) : tot s (xs.drop k) = tot (s + x) (xs.drop (k + 1)) := by
  rw [drop_at h]; unfold tot; rw [if_pos hi]; cases xs.drop (k + 1) <;> rfl
theorem tot_no {xs : List Int} {k : Nat} {x : Int} (s : Int) (h : xs[k]? = some x) (hi : ¬ inI (s + x)) : tot s (xs.drop k) = none := by
  rw [drop_at h]; unfold tot; rw [if_neg hi]

theorem ret2 {k l : IntKind} {a b c d : Int} (h : a = b) (g : c = d) : Ending.returned (.tuple #[.int k a, .int l c]) = .returned (.tuple #[.int k b, .int l d]) := by rw [h, g]

theorem total_any (A : Option Addr) (n cap B : Nat) (xs : List Int) (w : World) (hx : Ints .i64 w B A xs) (hn : xs.length = n) (hm : n ≤ 140737488355328) :
    Calls Try.prog 15 #[.slice A n cap] w fun e w' => e = .returned (.tuple #[.int .i64 (totV (tot 0 xs)), .int .i64 (totE (tot 0 xs))]) ∧ w = w' := by
  have HN : Hid (xs.length = n) := Lib.hid hn
  go_enter Try.func15, Try.ntmps15
  clear hn
  go_wp2
  go_loop [4, 10] (fun t i => ∃ k : Nat, k ≤ n ∧ i = .int .i64 k ∧ ∃ s : Int, t = .int .i64 s ∧ inI s ∧ Hid (tot 0 xs = tot s (xs.drop k))) (fun _ i => n - (intOf i).toNat)
  case atStart => exact ⟨0, Nat.zero_le _, rfl, 0, rfl, by unfold inI; omega, Lib.hid (by simp)⟩
  case round =>
    obtain ⟨k, hk, rfl, s, rfl, hs, HT⟩ := hrel
    by_cases hlt : k < n
    · obtain ⟨b, off, x, rfl, hb, HX, hc, hw⟩ := hx.at_ (j := k) (by rw [HN.out]; exact hlt)
      have hxi := inI_of_wf hw
      by_cases hin : inI (s + x)
      · go_wp2_with ((with_reducible refine (add_ok _ _ _ hs hxi hin).mono ?_); rintro e w' ⟨rfl, rfl⟩)
        go_round
        case rel => exact ⟨k + 1, by omega, by go_num, _, rfl, hin, Lib.hid (by rw [HT.out, tot_yes s HX.out hin])⟩
        case measure => simp [intOf]; omega
      · have HE : Hid (tot 0 xs = none) := Lib.hid (by rw [HT.out, tot_no s HX.out hin])
        go_wp2_with ((with_reducible refine (add_over _ _ _ hs hxi hin).mono ?_); rintro e w' ⟨rfl, rfl⟩)
        go_ret2
        exact ⟨ret2 (by rw [HE.out]; rfl) (by rw [HE.out]; rfl), rfl⟩
    · have HE : Hid (tot 0 xs = some s) := Lib.hid (by rw [HT.out, List.drop_of_length_le (by rw [HN.out]; omega)]; rfl)
      go_wp2
      go_ret2
      exact ⟨ret2 (by rw [HE.out]; rfl) (by rw [HE.out]; rfl), rfl⟩

theorem total_some (A : Option Addr) (n cap B : Nat) (xs : List Int) (r : Int) (w : World) (hx : Ints .i64 w B A xs) (hn : xs.length = n) (hm : n ≤ 140737488355328) (h : tot 0 xs = some r) :
    Calls Try.prog 15 #[.slice A n cap] w fun e w' => e = .returned (.tuple #[.int .i64 r, .int .i64 0]) ∧ w = w' := by
  have c := total_any A n cap B xs w hx hn hm
  rw [h] at c; exact c
theorem total_none (A : Option Addr) (n cap B : Nat) (xs : List Int) (w : World) (hx : Ints .i64 w B A xs) (hn : xs.length = n) (hm : n ≤ 140737488355328) (h : tot 0 xs = none) :
    Calls Try.prog 15 #[.slice A n cap] w fun e w' => e = .returned (.tuple #[.int .i64 0, .int .i64 3]) ∧ w = w' := by
  have c := total_any A n cap B xs w hx hn hm
  rw [h] at c; exact c

end Go.Proofs.Ytcbnmdkjlffogaa.num
