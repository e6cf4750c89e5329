/-
  Contract of num.Total: the sums, one behind the other, till one is none of the numbers.
-/
import Derived.Test.YtiebaiehoebhfaaNumAdd
import Derived.Test.YtiebaiehoebhfaaTotWords
namespace Go.Proofs.Ytiebaiehoebhfaa.num
open Go.RowKit
set_option linter.unusedVariables false

theorem total_any (A : Option Addr) (n cap B : Nat) (xs : List Int) (w : World) (hx : Ints .i64 w B A xs) (hn : xs.length = n) (hm : n ≤ 140737488355328) :
    Calls Try.prog 18 #[.slice A n cap] w fun e w' => e = .returned (.tuple #[.int .i64 (totV (tot 0 xs)), .int .i64 (totE (tot 0 xs))]) ∧ w = w' := by
  have HN : Hid (xs.length = n) := Lib.hid hn
  go_enter Try.func18, Try.ntmps18
  clear hn
  go_wp2
  go_loop [4, 10] (fun t i => ∃ k : Nat, k ≤ n ∧ i = .int .i64 k ∧ ∃ s : Int, t = .int .i64 s ∧ inI s ∧ Hid (tot 0 xs = tot s (xs.drop k))) (fun _ i => n - (intOf i).toNat)
  case atStart => exact ⟨0, Nat.zero_le _, rfl, 0, rfl, by unfold inI; omega, Lib.hid (by simp)⟩
  case round =>
    obtain ⟨k, hk, rfl, s, rfl, hs, HT⟩ := hrel
    by_cases hlt : k < n
    · obtain ⟨b, off, x, rfl, hb, HX, hc, hw⟩ := hx.at_ (j := k) (by rw [HN.out]; exact hlt)
      have hxi := inI_of_wf hw
      by_cases hin : inI (s + x)
      · go_wp2_with ((with_reducible refine (add_ok _ _ _ hs hxi hin).mono ?_); rintro e w' ⟨rfl, rfl⟩)
        go_round
        case rel => exact ⟨k + 1, by omega, by go_num, _, rfl, hin, Lib.hid (by rw [HT.out, tot_yes s HX.out hin])⟩
        case measure => simp [intOf]; omega
      · have HE : Hid (tot 0 xs = none) := Lib.hid (by rw [HT.out, tot_no s HX.out hin])
        go_wp2_with ((with_reducible refine (add_over _ _ _ hs hxi hin).mono ?_); rintro e w' ⟨rfl, rfl⟩)
        go_ret2
        exact ⟨ret2 (by rw [HE.out]; rfl) (by rw [HE.out]; rfl), rfl⟩
    · have HE : Hid (tot 0 xs = some s) := Lib.hid (by rw [HT.out, List.drop_of_length_le (by rw [HN.out]; omega)]; rfl)
      go_wp2
      go_ret2
      exact ⟨ret2 (by rw [HE.out]; rfl) (by rw [HE.out]; rfl), rfl⟩

theorem total_some (A : Option Addr) (n cap B : Nat) (xs : List Int) (r : Int) (w : World) (hx : Ints .i64 w B A xs) (hn : xs.length = n) (hm : n ≤ 140737488355328) (h : tot 0 xs = some r) :
    Calls Try.prog 18 #[.slice A n cap] w fun e w' => e = .returned (.tuple #[.int .i64 r, .int .i64 0]) ∧ w = w' := by
  have c := total_any A n cap B xs w hx hn hm
  rw [h] at c; exact c
theorem total_none (A : Option Addr) (n cap B : Nat) (xs : List Int) (w : World) (hx : Ints .i64 w B A xs) (hn : xs.length = n) (hm : n ≤ 140737488355328) (h : tot 0 xs = none) :
    Calls Try.prog 18 #[.slice A n cap] w fun e w' => e = .returned (.tuple #[.int .i64 0, .int .i64 3]) ∧ w = w' := by
  have c := total_any A n cap B xs w hx hn hm
  rw [h] at c; exact c

end Go.Proofs.Ytiebaiehoebhfaa.num
