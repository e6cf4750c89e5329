/-
  Plain mathematics of layer 9, over no program: which limit is right, what it stands against, what is open in all cells together.
-/
import Derived.Test.YtiebaiehoebhfaaCellMath2
import Derived.Test.YtiebaiehoebhfaaTotWords
namespace Go.Proofs.Ytiebaiehoebhfaa.limit
open Go.Proofs.Ytiebaiehoebhfaa.cell (Ce Ex covers covers_iff)
open Go.Proofs.Ytiebaiehoebhfaa.frame (inR)
set_option linter.unusedVariables false

def right (l : Ex) : Bool := decide (0 ≤ l.l ∧ 0 ≤ l.s ∧ 0 ≤ l.n)
def cap (was now c : Int) : Bool := decide (was < now ∧ c < now)
def against (was now l : Ex) : Bool := cap was.l now.l l.l || cap was.s now.s l.s || cap was.n now.n l.n
def lowers (was now : Ex) : Bool := decide (now.l < was.l ∨ now.s < was.s ∨ now.n < was.n)
def whole (l : List Ce) : Int × Int := (num.totV (num.tot 0 (l.map Ce.n)), num.totE (num.tot 0 (l.map Ce.n)))

theorem against_iff {was now l : Ex} : against was now l = true ↔ (was.l < now.l ∧ l.l < now.l) ∨ (was.s < now.s ∧ l.s < now.s) ∨ (was.n < now.n ∧ l.n < now.n) := by
  simp [against, cap, or_assoc]
theorem against_no {was now l : Ex} : against was now l = false ↔ ¬ ((was.l < now.l ∧ l.l < now.l) ∨ (was.s < now.s ∧ l.s < now.s) ∨ (was.n < now.n ∧ l.n < now.n)) := by
  rw [← against_iff]; simp
theorem covers_no {a b : Ex} : covers a b = false ↔ ¬ (b.l ≤ a.l ∧ b.s ≤ a.s ∧ b.n ≤ a.n) := by
  rw [← covers_iff]; simp
theorem lowers_iff {a b : Ex} : lowers a b = true ↔ b.l < a.l ∨ b.s < a.s ∨ b.n < a.n := by simp [lowers]
theorem lowers_no {a b : Ex} : lowers a b = false ↔ ¬ (b.l < a.l ∨ b.s < a.s ∨ b.n < a.n) := by rw [← lowers_iff]; simp
theorem keeps {was now l : Ex} (h : covers l was = true) (g : against was now l = false) : covers l now = true := by
  rw [covers_iff] at *; rw [against_no] at g; omega
theorem down {was now l : Ex} (g : against was now l = true) : covers was now = false := by
  rw [covers_no]; rw [against_iff] at g; omega
theorem within {was now l : Ex} (g : against was now l = true) : covers l now = false := by
  rw [covers_no]; rw [against_iff] at g; omega
theorem higher {was now l m : Ex} (h : lowers l m = false) (g : against was now l = false) : against was now m = false := by
  rw [lowers_no] at h; rw [against_no] at *; omega
theorem lowers_covers {was now : Ex} : covers now was = !(lowers was now) := by
  rw [Bool.eq_iff_iff, Bool.not_eq_true', covers_iff, lowers_no]; omega
theorem two {a b c l : Ex} (h : against a b l = false) (g : against b c l = false) : against a c l = false := by
  rw [against_no] at *; omega

/-- what is open in two lists together. -/
theorem whole_parts {l : List Ce} {k : Nat} {a x y : Int} (h : whole l = (a, 0)) (h1 : whole (l.take k) = (x, 0)) (h2 : whole (l.drop k) = (y, 0)) : a - x = y := by
  have e : ∀ (m : List Ce) (s : Int), whole m = (s, 0) → num.tot 0 (m.map Ce.n) = some s := by
    intro m s hm
    unfold whole at hm
    cases ht : num.tot 0 (m.map Ce.n) with
    | none => rw [ht] at hm; simp [num.totE] at hm
    | some v => rw [ht] at hm; simp [num.totV, num.totE] at hm; rw [hm]
  have e0 := e _ _ h
  have e1 := e _ _ h1
  have e2 := e _ _ h2
  have key : ∀ (m : List Int) (s r : Int), num.tot s m = some r → r = s + m.sum := by
    intro m
    induction m with
    | nil => intro s r hr; simp [num.tot] at hr; simp [hr]
    | cons z m ih =>
      intro s r hr
      unfold num.tot at hr
      split at hr
      · have := ih _ _ hr; rw [List.sum_cons]; omega
      · cases hr
  have k0 := key _ _ _ e0
  have k1 := key _ _ _ e1
  have k2 := key _ _ _ e2
  have hs : (l.map Ce.n).sum = ((l.take k).map Ce.n).sum + ((l.drop k).map Ce.n).sum := by
    conv => lhs; rw [← List.take_append_drop k l]
    rw [List.map_append, List.sum_append]
  omega
theorem whole_err {l : List Ce} {a e : Int} (h : whole l = (a, e)) : e = 0 ∨ a = 0 ∧ e = 3 := by
  unfold whole at h
  cases ht : num.tot 0 (l.map Ce.n) with
  | none => rw [ht] at h; simp [num.totV, num.totE] at h; omega
  | some v => rw [ht] at h; simp [num.totV, num.totE] at h; omega
theorem whole_in {l : List Ce} {a e : Int} (h : whole l = (a, e)) : inI a := by
  unfold whole at h
  cases ht : num.tot 0 (l.map Ce.n) with
  | none => rw [ht] at h; simp only [num.totV, Prod.mk.injEq] at h; obtain ⟨rfl, _⟩ := h; unfold inI; simp
  | some v =>
    rw [ht] at h
    simp only [num.totV, Prod.mk.injEq] at h
    obtain ⟨rfl, _⟩ := h
    exact num.tot_in 0 _ _ (by unfold inI; omega) ht

end Go.Proofs.Ytiebaiehoebhfaa.limit
