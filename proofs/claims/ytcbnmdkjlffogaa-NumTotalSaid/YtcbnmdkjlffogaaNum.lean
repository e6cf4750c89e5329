/-
  Contracts of package num (Add, Sub, Mul, Max): what each call returns, for every input; the world stays as it is.
-/
import Derived.Test.YtcbnmdkjlffogaaRows
import Derived.Test.YtcbnmdkjlffogaaBase
import Derived.WalkKit
import Derived.WalkSpells
import Derived.WalkLawsBesides
namespace Go.Proofs.Ytcbnmdkjlffogaa.num
open Go.RowKit
set_option linter.unusedVariables false


theorem add_ok (a b : Int) (w : World) (ha : inI a) (hb : inI b) (h : inI (a + b)) :
    Calls Try.prog 8 #[.int .i64 a, .int .i64 b] w fun e w' => e = .returned (.tuple #[.int .i64 (a + b), .int .i64 0]) ∧ w = w' := by
  unfold inI at ha hb h
  by_cases hn : b < 0
  · have h2 : a + b < a := by omega
    go_enter Try.func8, Try.ntmps8
    go_wp2
    go_ret2
    exact ⟨rfl, rfl⟩
  · have h2 : ¬ a + b < a := by omega
    go_enter Try.func8, Try.ntmps8
    go_wp2
    go_ret2
    exact ⟨rfl, rfl⟩

theorem add_over (a b : Int) (w : World) (ha : inI a) (hb : inI b) (h : ¬ inI (a + b)) :
    Calls Try.prog 8 #[.int .i64 a, .int .i64 b] w fun e w' => e = .returned (.tuple #[.int .i64 0, .int .i64 3]) ∧ w = w' := by
  unfold inI at ha hb h
  by_cases hn : b < 0
  · have h2 : ¬ wrap64 (a + b) < a := by unfold wrap64; omega
    go_enter Try.func8, Try.ntmps8
    go_wp2
    go_ret2
    exact ⟨rfl, rfl⟩
  · have h2 : wrap64 (a + b) < a := by unfold wrap64; omega
    go_enter Try.func8, Try.ntmps8
    go_wp2
    go_ret2
    exact ⟨rfl, rfl⟩

theorem sub_ok (a b : Int) (w : World) (ha : inI a) (hb : inI b) (h : inI (a - b)) :
    Calls Try.prog 11 #[.int .i64 a, .int .i64 b] w fun e w' => e = .returned (.tuple #[.int .i64 (a - b), .int .i64 0]) ∧ w = w' := by
  unfold inI at ha hb h
  by_cases hn : b < 0
  · have h2 : a < a - b := by omega
    go_enter Try.func11, Try.ntmps11
    go_wp2
    go_ret2
    exact ⟨rfl, rfl⟩
  · have h2 : ¬ a < a - b := by omega
    go_enter Try.func11, Try.ntmps11
    go_wp2
    go_ret2
    exact ⟨rfl, rfl⟩

theorem sub_over (a b : Int) (w : World) (ha : inI a) (hb : inI b) (h : ¬ inI (a - b)) :
    Calls Try.prog 11 #[.int .i64 a, .int .i64 b] w fun e w' => e = .returned (.tuple #[.int .i64 0, .int .i64 3]) ∧ w = w' := by
  unfold inI at ha hb h
  by_cases hn : b < 0
  · have h2 : ¬ a < wrap64 (a - b) := by unfold wrap64; omega
    go_enter Try.func11, Try.ntmps11
    go_wp2
    go_ret2
    exact ⟨rfl, rfl⟩
  · have h2 : a < wrap64 (a - b) := by unfold wrap64; omega
    go_enter Try.func11, Try.ntmps11
    go_wp2
    go_ret2
    exact ⟨rfl, rfl⟩

theorem mul_ok (a b : Int) (w : World) (ha : inI a) (hb : inI b) (h : inI (a * b)) :
    Calls Try.prog 13 #[.int .i64 a, .int .i64 b] w fun e w' => e = .returned (.tuple #[.int .i64 (a * b), .int .i64 0]) ∧ w = w' := by
  unfold inI at ha hb h
  by_cases hz : a = 0
  · subst hz
    go_enter Try.func13, Try.ntmps13
    go_wp2
    go_ret2
    exact ⟨by simp, rfl⟩
  by_cases hy : b = 0
  · subst hy
    go_enter Try.func13, Try.ntmps13
    go_wp2
    go_ret2
    exact ⟨by simp, rfl⟩
  have hz' : (a == 0) = false := by simpa using hz
  have hy' : (b == 0) = false := by simpa using hy
  have h1 : wrap64 ((a * b).tdiv a) = b := by rw [Int.mul_tdiv_cancel_left _ hz]; unfold wrap64; omega
  have h2 : wrap64 ((a * b).tdiv b) = a := by rw [Int.mul_tdiv_cancel _ hy]; unfold wrap64; omega
  go_enter Try.func13, Try.ntmps13
  go_wp2
  go_ret2
  exact ⟨rfl, rfl⟩

/-- what wraps is off by whole rounds. -/
theorem wrap_round (x : Int) : ∃ k : Int, wrap64 x = x + 18446744073709551616 * k := by
  refine ⟨(wrap64 x - x) / 18446744073709551616, ?_⟩
  unfold wrap64; omega
theorem wrap_in (x : Int) : inI (wrap64 x) := by unfold wrap64 inI; omega

/-- a product that wraps is given away by one of the two quotients. -/
theorem mul_wraps (a b : Int) (ha : inI a) (hb : inI b) (hz : a ≠ 0) (hy : b ≠ 0) (h : ¬ inI (a * b))
    (h1 : wrap64 ((wrap64 (a * b)).tdiv a) = b) : ¬ wrap64 ((wrap64 (a * b)).tdiv b) = a := by
  have hp := wrap_in (a * b)
  obtain ⟨k, hk⟩ := wrap_round (a * b)
  have hne : wrap64 (a * b) ≠ a * b := fun e => h (e ▸ hp)
  generalize wrap64 (a * b) = p at *
  have hq : ∀ c, inI c → c ≠ 0 → inI (p.tdiv c) ∨ (c = -1 ∧ p = -9223372036854775808) := by
    intro c hc hc0
    have h2 : (p.tdiv c).natAbs = p.natAbs / c.natAbs := Int.natAbs_tdiv p c
    have h3 := Nat.div_le_self p.natAbs c.natAbs
    by_cases hm : p = -9223372036854775808
    · by_cases hc1 : c = -1
      · exact Or.inr ⟨hc1, hm⟩
      · left
        by_cases hc2 : c = 1
        · subst hc2; simpa using hp
        · have h4 : p.natAbs / c.natAbs ≤ p.natAbs / 2 := Nat.div_le_div_left (by omega) (by omega)
          unfold inI at *; omega
    · left; unfold inI at *; omega
  have key : ∀ c d : Int, c ≠ 0 → inI c → p.tdiv c = d → c * d = a * b → False := by
    intro c d hc hci hd he
    have h2 := Int.mul_tdiv_add_tmod p c
    rw [hd, he] at h2
    have h3 : (p.tmod c).natAbs = p.natAbs % c.natAbs := Int.natAbs_tmod p c
    have h4 := Nat.mod_lt p.natAbs (show 0 < c.natAbs by omega)
    have hk0 : k ≠ 0 := by intro hk0; apply hne; rw [hk, hk0]; omega
    unfold inI at hci
    omega
  have wr : ∀ x, inI x → wrap64 x = x := by intro x hx; unfold inI at hx; unfold wrap64; omega
  intro h2
  rcases hq a ha hz with q1 | ⟨ea, ep⟩
  · rw [wr _ q1] at h1
    exact key a b hz ha h1 rfl
  · rcases hq b hb hy with q2 | ⟨eb, _⟩
    · rw [wr _ q2] at h2
      exact key b a hy hb h2 (Int.mul_comm _ _)
    · subst ea eb; exact h (by unfold inI; omega)

theorem mul_over (a b : Int) (w : World) (ha : inI a) (hb : inI b) (h : ¬ inI (a * b)) :
    Calls Try.prog 13 #[.int .i64 a, .int .i64 b] w fun e w' => e = .returned (.tuple #[.int .i64 0, .int .i64 3]) ∧ w = w' := by
  have hz : a ≠ 0 := by rintro rfl; exact h (by unfold inI; omega)
  have hy : b ≠ 0 := by rintro rfl; exact h (by unfold inI; omega)
  have H := mul_wraps a b ha hb hz hy h
  have hz' : (a == 0) = false := by simpa using hz
  have hy' : (b == 0) = false := by simpa using hy
  by_cases h1 : wrap64 ((wrap64 (a * b)).tdiv a) = b
  · have h2 := H h1
    have h1' : (wrap64 ((wrap64 (a * b)).tdiv a) != b) = false := by simpa using h1
    have h2' : (wrap64 ((wrap64 (a * b)).tdiv b) != a) = true := by simpa using h2
    clear H h1 h2 h
    go_enter Try.func13, Try.ntmps13
    go_wp2
    go_ret2
    exact ⟨rfl, rfl⟩
  · have h1' : (wrap64 ((wrap64 (a * b)).tdiv a) != b) = true := by simpa using h1
    clear H h1 h
    go_enter Try.func13, Try.ntmps13
    go_wp2
    go_ret2
    exact ⟨rfl, rfl⟩

theorem max_any (a b : Int) (w : World) (ha : inI a) (hb : inI b) :
    Calls Try.prog 17 #[.int .i64 a, .int .i64 b] w fun e w' => e = .returned (.int .i64 (max a b)) ∧ w = w' := by
  unfold inI at ha hb
  by_cases h : a < b
  · rw [show max a b = b by omega]
    go_enter Try.func17, Try.ntmps17
    go_wp2
    go_ret
    exact ⟨by simp, rfl⟩
  · rw [show max a b = a by omega]
    go_enter Try.func17, Try.ntmps17
    go_wp2
    go_ret
    exact ⟨by simp, rfl⟩

theorem add_is (a b s : Int) (w : World) (ha : inI a) (hb : inI b) (hs : inI s) (h : a + b = s) :
    Calls Try.prog 8 #[.int .i64 a, .int .i64 b] w fun e w' => e = .returned (.tuple #[.int .i64 s, .int .i64 0]) ∧ w = w' := by
  subst h; exact add_ok a b w ha hb hs
theorem sub_is (a b s : Int) (w : World) (ha : inI a) (hb : inI b) (hs : inI s) (h : a - b = s) :
    Calls Try.prog 11 #[.int .i64 a, .int .i64 b] w fun e w' => e = .returned (.tuple #[.int .i64 s, .int .i64 0]) ∧ w = w' := by
  subst h; exact sub_ok a b w ha hb hs
theorem mul_is (a b s : Int) (w : World) (ha : inI a) (hb : inI b) (hs : inI s) (h : a * b = s) :
    Calls Try.prog 13 #[.int .i64 a, .int .i64 b] w fun e w' => e = .returned (.tuple #[.int .i64 s, .int .i64 0]) ∧ w = w' := by
  subst h; exact mul_ok a b w ha hb hs

end Go.Proofs.Ytcbnmdkjlffogaa.num
