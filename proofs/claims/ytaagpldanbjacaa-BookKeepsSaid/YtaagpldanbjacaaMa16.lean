/-
  NumWords, TotWords, LimMath, BookMath
-/
import Derived.Test.YtaagpldanbjacaaRows
import Derived.Test.YtaagpldanbjacaaMa01
import Derived.WalkKit
import Derived.WalkSpells
import Derived.WalkLawsBesides
import Derived.Test.YtaagpldanbjacaaMa12
section
namespace Go.Proofs.Ytaagpldanbjacaa.num
open Go.RowKit
set_option linter.unusedVariables false

theorem wrap_round (x : Int) : ∃ k : Int, wrap64 x = x + 18446744073709551616 * k := by
  refine ⟨(wrap64 x - x) / 18446744073709551616, ?_⟩
  unfold wrap64; omega
theorem wrap_in (x : Int) : inI (wrap64 x) := by unfold wrap64 inI; omega

/-- a product that wraps is given away by one of the two quotients. -/
theorem mul_wraps (a b : Int) (ha : inI a) (hb : inI b) (hz : a ≠ 0) (hy : b ≠ 0) (h : ¬ inI (a * b))
    (h1 : wrap64 ((wrap64 (a * b)).tdiv a) = b) : ¬ wrap64 ((wrap64 (a * b)).tdiv b) = a := by
  have hp := wrap_in (a * b)
  obtain ⟨k, hk⟩ := wrap_round (a * b)
  have hne : wrap64 (a * b) ≠ a * b := fun e => h (e ▸ hp)
  generalize wrap64 (a * b) = p at *
  have hq : ∀ c, inI c → c ≠ 0 → inI (p.tdiv c) ∨ (c = -1 ∧ p = -9223372036854775808) := by
    intro c hc hc0
    have h2 : (p.tdiv c).natAbs = p.natAbs / c.natAbs := Int.natAbs_tdiv p c
    have h3 := Nat.div_le_self p.natAbs c.natAbs
    by_cases hm : p = -9223372036854775808
    · by_cases hc1 : c = -1
      · exact Or.inr ⟨hc1, hm⟩
      · left
        by_cases hc2 : c = 1
        · subst hc2; simpa using hp
        · have h4 : p.natAbs / c.natAbs ≤ p.natAbs / 2 := Nat.div_le_div_left (by omega) (by omega)
          unfold inI at *; omega
    · left; unfold inI at *; omega
  have key : ∀ c d : Int, c ≠ 0 → inI c → p.tdiv c = d → c * d = a * b → False := by
    intro c d hc hci hd he
    have h2 := Int.mul_tdiv_add_tmod p c
    rw [hd, he] at h2
    have h3 : (p.tmod c).natAbs = p.natAbs % c.natAbs := Int.natAbs_tmod p c
    have h4 := Nat.mod_lt p.natAbs (show 0 < c.natAbs by omega)
    have hk0 : k ≠ 0 := by intro hk0; apply hne; rw [hk, hk0]; omega
    unfold inI at hci
    omega
  have wr : ∀ x, inI x → wrap64 x = x := by intro x hx; unfold inI at hx; unfold wrap64; omega
  intro h2
  rcases hq a ha hz with q1 | ⟨ea, ep⟩
  · rw [wr _ q1] at h1
    exact key a b hz ha h1 rfl
  · rcases hq b hb hy with q2 | ⟨eb, _⟩
    · rw [wr _ q2] at h2
      exact key b a hy hb h2 (Int.mul_comm _ _)
    · subst ea eb; exact h (by unfold inI; omega)

end Go.Proofs.Ytaagpldanbjacaa.num
end
section
namespace Go.Proofs.Ytaagpldanbjacaa.num
open Go.RowKit
set_option linter.unusedVariables false

/-- s, to which each is added; none, if one of these sums is none of the numbers. -/
def tot (s : Int) : List Int → Option Int
  | [] => some s
  | x :: r => if inI (s + x) then tot (s + x) r else none
/-- the two results that stand for it. -/
def totV (o : Option Int) : Int := o.getD 0
def totE (o : Option Int) : Int := if o.isSome then 0 else 3

theorem tot_in (s : Int) (xs : List Int) (r : Int) (hs : inI s) (h : tot s xs = some r) : inI r := by
  induction xs generalizing s with
  | nil => simp [tot] at h; exact h ▸ hs
  | cons x xs ih =>
    unfold tot at h
    by_cases hx : inI (s + x)
    · rw [if_pos hx] at h; exact ih _ hx h
    · rw [if_neg hx] at h; cases h

theorem drop_at {xs : List Int} {k : Nat} {x : Int} (h : xs[k]? = some x) : xs.drop k = x :: xs.drop (k + 1) := by
  obtain ⟨hk, rfl⟩ := List.getElem?_eq_some_iff.1 h
  rw [List.drop_eq_getElem_cons hk]

theorem tot_yes {xs : List Int} {k : Nat} {x : Int} (s : Int) (h : xs[k]? = some x) (hi : inI (s + x)) : tot s (xs.drop k) = tot (s + x) (xs.drop (k + 1)) := by
  rw [drop_at h]; unfold tot; rw [if_pos hi]; cases xs.drop (k + 1) <;> rfl
theorem tot_no {xs : List Int} {k : Nat} {x : Int} (s : Int) (h : xs[k]? = some x) (hi : ¬ inI (s + x)) : tot s (xs.drop k) = none := by
  rw [drop_at h]; unfold tot; rw [if_neg hi]

theorem tot_append (s : Int) (a b : List Int) : tot s (a ++ b) = (tot s a).bind fun r => tot r b := by
  induction a generalizing s with
  | nil => rfl
  | cons x a ih =>
    show (if inI (s + x) then tot (s + x) (a ++ b) else none) = (if inI (s + x) then tot (s + x) a else none).bind _
    by_cases h : inI (s + x)
    · rw [if_pos h, if_pos h, ih]
    · rw [if_neg h, if_neg h]; rfl

/-- of numbers from 0 on the total is their sum, if that is one of the numbers. -/
theorem tot_nonneg (s : Int) (xs : List Int) (hs : 0 ≤ s) (hi : inI s) (hx : ∀ x ∈ xs, 0 ≤ x) :
    0 ≤ xs.sum ∧ tot s xs = if s + xs.sum ≤ 9223372036854775807 then some (s + xs.sum) else none := by
  induction xs generalizing s with
  | nil => unfold inI at hi; simp [tot]; omega
  | cons x xs ih =>
    have h0 := hx x (by simp)
    have hr : ∀ y ∈ xs, 0 ≤ y := fun y hy => hx y (by simp [hy])
    have hsum := (ih 0 (by omega) (by unfold inI; omega) hr).1
    rw [List.sum_cons]
    refine ⟨by omega, ?_⟩
    show (if inI (s + x) then tot (s + x) xs else none) = _
    by_cases h : inI (s + x)
    · rw [if_pos h, (ih (s + x) (by omega) h hr).2, Int.add_assoc]
    · rw [if_neg h, if_neg (by unfold inI at *; omega)]

theorem sum_reverse (xs : List Int) : xs.reverse.sum = xs.sum := by
  induction xs with
  | nil => rfl
  | cons x xs ih => simp [List.sum_append, ih]; omega

theorem tot_reverse (xs : List Int) (hx : ∀ x ∈ xs, 0 ≤ x) : tot 0 xs.reverse = tot 0 xs := by
  rw [(tot_nonneg 0 xs.reverse (by omega) (by unfold inI; omega) (fun x h => hx x (by simpa using h))).2, (tot_nonneg 0 xs (by omega) (by unfold inI; omega) hx).2, sum_reverse]

/-- a beginning's total is no more. -/
theorem tot_begin (xs : List Int) (k : Nat) (h a : Int) (hx : ∀ x ∈ xs, 0 ≤ x) (h1 : tot 0 (xs.take k) = some h) (h2 : tot 0 xs = some a) : h ≤ a := by
  have e : tot 0 xs = tot h (xs.drop k) := by
    conv => lhs; rw [← List.take_append_drop k xs]
    rw [tot_append, h1]; rfl
  have i0 : inI h := tot_in 0 _ h (by unfold inI; omega) h1
  have hp : 0 ≤ h := by
    have := tot_nonneg 0 (xs.take k) (by omega) (by unfold inI; omega) (fun x hm => hx x (List.mem_of_mem_take hm))
    rw [h1] at this
    have hs := this.1
    by_cases hc : 0 + (xs.take k).sum ≤ 9223372036854775807
    · rw [if_pos hc] at this; have := this.2; simp at this; omega
    · rw [if_neg hc] at this; cases this.2
  have hd := tot_nonneg h (xs.drop k) hp i0 (fun x hm => hx x (List.mem_of_mem_drop hm))
  rw [← e, h2] at hd
  by_cases hc : h + (xs.drop k).sum ≤ 9223372036854775807
  · rw [if_pos hc] at hd; have := hd.1; have := hd.2; simp at this; omega
  · rw [if_neg hc] at hd; cases hd.2

theorem ret2 {k l : IntKind} {a b c d : Int} (h : a = b) (g : c = d) : Ending.returned (.tuple #[.int k a, .int l c]) = .returned (.tuple #[.int k b, .int l d]) := by rw [h, g]

end Go.Proofs.Ytaagpldanbjacaa.num
end
section
namespace Go.Proofs.Ytaagpldanbjacaa.limit
open Go.Proofs.Ytaagpldanbjacaa.cell (Ce Ex covers covers_iff)
open Go.Proofs.Ytaagpldanbjacaa.frame (inR)
set_option linter.unusedVariables false

def right (l : Ex) : Bool := decide (0 ≤ l.l ∧ 0 ≤ l.s ∧ 0 ≤ l.n)
def cap (was now c : Int) : Bool := decide (was < now ∧ c < now)
def against (was now l : Ex) : Bool := cap was.l now.l l.l || cap was.s now.s l.s || cap was.n now.n l.n
def lowers (was now : Ex) : Bool := decide (now.l < was.l ∨ now.s < was.s ∨ now.n < was.n)
def whole (l : List Ce) : Int × Int := (num.totV (num.tot 0 (l.map Ce.n)), num.totE (num.tot 0 (l.map Ce.n)))

theorem against_iff {was now l : Ex} : against was now l = true ↔ (was.l < now.l ∧ l.l < now.l) ∨ (was.s < now.s ∧ l.s < now.s) ∨ (was.n < now.n ∧ l.n < now.n) := by
  simp [against, cap, or_assoc]
theorem against_no {was now l : Ex} : against was now l = false ↔ ¬ ((was.l < now.l ∧ l.l < now.l) ∨ (was.s < now.s ∧ l.s < now.s) ∨ (was.n < now.n ∧ l.n < now.n)) := by
  rw [← against_iff]; simp
theorem covers_no {a b : Ex} : covers a b = false ↔ ¬ (b.l ≤ a.l ∧ b.s ≤ a.s ∧ b.n ≤ a.n) := by
  rw [← covers_iff]; simp
theorem lowers_iff {a b : Ex} : lowers a b = true ↔ b.l < a.l ∨ b.s < a.s ∨ b.n < a.n := by simp [lowers]
theorem lowers_no {a b : Ex} : lowers a b = false ↔ ¬ (b.l < a.l ∨ b.s < a.s ∨ b.n < a.n) := by rw [← lowers_iff]; simp
theorem keeps {was now l : Ex} (h : covers l was = true) (g : against was now l = false) : covers l now = true := by
  rw [covers_iff] at *; rw [against_no] at g; omega
theorem down {was now l : Ex} (g : against was now l = true) : covers was now = false := by
  rw [covers_no]; rw [against_iff] at g; omega
theorem within {was now l : Ex} (g : against was now l = true) : covers l now = false := by
  rw [covers_no]; rw [against_iff] at g; omega
theorem higher {was now l m : Ex} (h : lowers l m = false) (g : against was now l = false) : against was now m = false := by
  rw [lowers_no] at h; rw [against_no] at *; omega
theorem lowers_covers {was now : Ex} : covers now was = !(lowers was now) := by
  rw [Bool.eq_iff_iff, Bool.not_eq_true', covers_iff, lowers_no]; omega
theorem two {a b c l : Ex} (h : against a b l = false) (g : against b c l = false) : against a c l = false := by
  rw [against_no] at *; omega

/-- what is open in two lists together. -/
theorem whole_parts {l : List Ce} {k : Nat} {a x y : Int} (h : whole l = (a, 0)) (h1 : whole (l.take k) = (x, 0)) (h2 : whole (l.drop k) = (y, 0)) : a - x = y := by
  have e : ∀ (m : List Ce) (s : Int), whole m = (s, 0) → num.tot 0 (m.map Ce.n) = some s := by
    intro m s hm
    unfold whole at hm
    cases ht : num.tot 0 (m.map Ce.n) with
    | none => rw [ht] at hm; simp [num.totE] at hm
    | some v => rw [ht] at hm; simp [num.totV, num.totE] at hm; rw [hm]
  have e0 := e _ _ h
  have e1 := e _ _ h1
  have e2 := e _ _ h2
  have key : ∀ (m : List Int) (s r : Int), num.tot s m = some r → r = s + m.sum := by
    intro m
    induction m with
    | nil => intro s r hr; simp [num.tot] at hr; simp [hr]
    | cons z m ih =>
      intro s r hr
      unfold num.tot at hr
      split at hr
      · have := ih _ _ hr; rw [List.sum_cons]; omega
      · cases hr
  have k0 := key _ _ _ e0
  have k1 := key _ _ _ e1
  have k2 := key _ _ _ e2
  have hs : (l.map Ce.n).sum = ((l.take k).map Ce.n).sum + ((l.drop k).map Ce.n).sum := by
    conv => lhs; rw [← List.take_append_drop k l]
    rw [List.map_append, List.sum_append]
  omega
theorem whole_err {l : List Ce} {a e : Int} (h : whole l = (a, e)) : e = 0 ∨ a = 0 ∧ e = 3 := by
  unfold whole at h
  cases ht : num.tot 0 (l.map Ce.n) with
  | none => rw [ht] at h; simp [num.totV, num.totE] at h; omega
  | some v => rw [ht] at h; simp [num.totV, num.totE] at h; omega
theorem whole_in {l : List Ce} {a e : Int} (h : whole l = (a, e)) : inI a := by
  unfold whole at h
  cases ht : num.tot 0 (l.map Ce.n) with
  | none => rw [ht] at h; simp only [num.totV, Prod.mk.injEq] at h; obtain ⟨rfl, _⟩ := h; unfold inI; simp
  | some v =>
    rw [ht] at h
    simp only [num.totV, Prod.mk.injEq] at h
    obtain ⟨rfl, _⟩ := h
    exact num.tot_in 0 _ _ (by unfold inI; omega) ht

end Go.Proofs.Ytaagpldanbjacaa.limit
end
section
namespace Go.Proofs.Ytaagpldanbjacaa.book
open Go.Proofs.Ytaagpldanbjacaa.cell (Ce Ex)
open Go.Proofs.Ytaagpldanbjacaa.order (Or Nt open_ worth)
open Go.Proofs.Ytaagpldanbjacaa.rec (Rc)
open Go.Proofs.Ytaagpldanbjacaa.frame (inR)
set_option linter.unusedVariables false
set_option linter.unusedSimpArgs false

/-- a state: accounts, symbols, orders, cells, limits, caps, the switch, the greatest order's number, the last event's, the last record's. -/
structure St where
  (a y : Int) (os : List Or) (cs : List Ce) (ls : List Ex) (ps : List Int) (k : Bool) (last seq lsn : Int)
  deriving DecidableEq
/-- the place of an order's cell; what it has open to buy, to sell, and what that is worth, at a place. -/
def pl (y : Int) (o : Or) : Int := o.a * y + o.y
def wB (y i : Int) (o : Or) : Int := if pl y o = i ∧ o.d = 1 then open_ o else 0
def wS (y i : Int) (o : Or) : Int := if pl y o = i ∧ o.d ≠ 1 then open_ o else 0
def wN (y i : Int) (o : Or) : Int := if pl y o = i then (worth o).1 else 0
def sum (w : Or → Int) (os : List Or) : Int := (os.map w).sum
def cellAt (y i p : Int) (os : List Or) : Ce := ⟨p, sum (wB y i) os, sum (wS y i) os, sum (wN y i) os⟩
def cellsOf (y : Int) (os : List Or) (ps : List Int) : List Ce := ps.mapIdx fun i p => cellAt y i p os
/-- the cells of an account. -/
def acc (y : Int) (j : Nat) (cs : List Ce) : List Ce := (cs.drop (j * y.toNat)).take y.toNat
def Fits (a y : Int) (os : List Or) (cs : List Ce) : Prop :=
  (∀ o ∈ os, (worth o).2 = 0) ∧ (∀ c ∈ cs, c.fine ∧ cell.Rightly c) ∧ ∀ j ∈ List.range a.toNat, (limit.whole (acc y j cs)).2 = 0
def OrdersOk (a y last : Int) (os : List Or) : Prop :=
  (∀ o ∈ os, order.Rightly o ∧ o.h ≠ 3 ∧ o.a < a ∧ o.y < y ∧ o.i ≤ last) ∧ os.Pairwise (fun o p => o.i < p.i) ∧ os.length ≤ 64
def LimOk (l : Ex) : Prop := 0 ≤ l.l ∧ 0 ≤ l.s ∧ 0 ≤ l.n
def Rightly (s : St) : Prop :=
  (1 ≤ s.a ∧ s.a ≤ 8 ∧ 1 ≤ s.y ∧ s.y ≤ 8) ∧ ((s.cs.length : Int) = s.a * s.y ∧ (s.ls.length : Int) = s.a * s.y ∧ (s.ps.length : Int) = s.a) ∧
  (0 ≤ s.last ∧ s.last ≤ 1000000000000 ∧ 0 ≤ s.seq ∧ s.seq ≤ 1000000000 ∧ 0 ≤ s.lsn ∧ s.lsn ≤ 1000000000) ∧
  OrdersOk s.a s.y s.last s.os ∧ (∀ l ∈ s.ls, LimOk l) ∧ (∀ c ∈ s.ps, 0 ≤ c) ∧ Fits s.a s.y s.os s.cs ∧ s.cs = cellsOf s.y s.os (s.cs.map Ce.p)
instance (a y : Int) (os : List Or) (cs : List Ce) : Decidable (Fits a y os cs) := by unfold Fits; infer_instance
instance (a y last : Int) (os : List Or) : Decidable (OrdersOk a y last os) := by unfold OrdersOk; infer_instance
instance (l : Ex) : Decidable (LimOk l) := by unfold LimOk; infer_instance
instance (s : St) : Decidable (Rightly s) := by unfold Rightly; infer_instance
def right (s : St) : Bool := decide (Rightly s)
theorem right_iff {s : St} : right s = true ↔ Rightly s := by simp [right]
theorem right_no {s : St} : right s = false ↔ ¬ Rightly s := by simp [right]

/-- sums over orders of which one is another one, or goes, or comes. -/
theorem sum_set (w : Or → Int) : ∀ (os : List Or) (k : Nat) (o p : Or), os[k]? = some o → sum w (os.set k p) = sum w os - w o + w p
  | [], k, o, p, h => by simp at h
  | x :: os, 0, o, p, h => by
    simp only [List.getElem?_cons_zero, Option.some.injEq] at h
    subst h
    simp [sum]; omega
  | x :: os, k + 1, o, p, h => by
    simp only [List.getElem?_cons_succ] at h
    have := sum_set w os k o p h
    simp only [sum, List.set_cons_succ, List.map_cons, List.sum_cons] at *
    omega
theorem sum_erase (w : Or → Int) : ∀ (os : List Or) (k : Nat) (o : Or), os[k]? = some o → sum w (os.eraseIdx k) = sum w os - w o
  | [], k, o, h => by simp at h
  | x :: os, 0, o, h => by
    simp only [List.getElem?_cons_zero, Option.some.injEq] at h
    subst h
    simp [sum]; omega
  | x :: os, k + 1, o, h => by
    simp only [List.getElem?_cons_succ] at h
    have := sum_erase w os k o h
    simp only [sum, List.eraseIdx_cons_succ, List.map_cons, List.sum_cons] at *
    omega
theorem sum_snoc (w : Or → Int) (os : List Or) (o : Or) : sum w (os ++ [o]) = sum w os + w o := by simp [sum]
theorem sum_nn {w : Or → Int} : ∀ {os : List Or}, (∀ o ∈ os, 0 ≤ w o) → 0 ≤ sum w os
  | [], _ => by simp [sum]
  | x :: os, h => by
    have h0 := h x (by simp)
    have h1 := sum_nn (w := w) (os := os) (fun o ho => h o (by simp [ho]))
    simp only [sum, List.map_cons, List.sum_cons] at *
    omega
theorem sum_one {w : Or → Int} : ∀ {os : List Or} {k : Nat} {o : Or}, (∀ o ∈ os, 0 ≤ w o) → os[k]? = some o → w o ≤ sum w os
  | [], k, o, _, h => by simp at h
  | x :: os, 0, o, hn, h => by
    simp only [List.getElem?_cons_zero, Option.some.injEq] at h
    subst h
    have h1 := sum_nn (w := w) (os := os) (fun o ho => hn o (by simp [ho]))
    simp only [sum, List.map_cons, List.sum_cons] at *
    omega
  | x :: os, k + 1, o, hn, h => by
    simp only [List.getElem?_cons_succ] at h
    have h1 := sum_one (w := w) (fun o ho => hn o (by simp [ho])) h
    have h0 := hn x (by simp)
    simp only [sum, List.map_cons, List.sum_cons] at *
    omega
theorem sum_take {w : Or → Int} {os : List Or} (h : ∀ o ∈ os, 0 ≤ w o) (k : Nat) : sum w (os.take k) ≤ sum w os := by
  have h1 : sum w os = sum w (os.take k) + sum w (os.drop k) := by
    unfold sum
    conv => lhs; rw [← List.take_append_drop k os]
    rw [List.map_append, List.sum_append]
  have h2 := sum_nn (w := w) (os := os.drop k) (fun o ho => h o (List.mem_of_mem_drop ho))
  omega
theorem sum_zero {w : Or → Int} {os : List Or} (h : ∀ o ∈ os, w o = 0) : sum w os = 0 := by
  induction os with
  | nil => rfl
  | cons x os ih =>
    have h0 := h x (by simp)
    have := ih (fun o ho => h o (by simp [ho]))
    simp only [sum, List.map_cons, List.sum_cons] at *
    omega

theorem wB_nn {y i : Int} {o : Or} (h : order.Rightly o) : 0 ≤ wB y i o := by
  unfold wB; split
  · exact cell.open_nn h
  · omega
theorem wS_nn {y i : Int} {o : Or} (h : order.Rightly o) : 0 ≤ wS y i o := by
  unfold wS; split
  · exact cell.open_nn h
  · omega
theorem wN_nn {y i : Int} {o : Or} (h : order.Rightly o) : 0 ≤ wN y i o := by
  unfold wN; split
  · exact cell.worth_nn h
  · omega
theorem cells_len (y : Int) (os : List Or) (ps : List Int) : (cellsOf y os ps).length = ps.length := by simp [cellsOf]
theorem cells_at {y : Int} {os : List Or} {ps : List Int} {i : Nat} {p : Int} (h : ps[i]? = some p) : (cellsOf y os ps)[i]? = some (cellAt y i p os) := by
  simp [cellsOf, List.getElem?_mapIdx, h]
theorem cells_pos (y : Int) (os : List Or) (ps : List Int) : (cellsOf y os ps).map Ce.p = ps := by
  apply List.ext_getElem?
  intro i
  rw [List.getElem?_map]
  cases h : ps[i]? with
  | none => simp [cellsOf, List.getElem?_mapIdx, h]
  | some p => rw [cells_at h]; rfl
/-- a cell of a state that is right. -/
theorem cell_is {s : St} (hs : Rightly s) {i : Nat} {c : Ce} (h : s.cs[i]? = some c) : c = cellAt s.y i c.p s.os ∧ c.fine ∧ cell.Rightly c := by
  obtain ⟨_, _, _, _, _, _, hf, hc⟩ := hs
  refine ⟨?_, hf.2.1 c (List.mem_of_getElem? h)⟩
  have h1 : (s.cs.map Ce.p)[i]? = some c.p := by rw [List.getElem?_map, h]; rfl
  have h2 := cells_at (y := s.y) (os := s.os) h1
  rw [← hc, h] at h2
  exact Option.some.inj h2

/-- sums of what is open in cells that come to no more. -/
theorem whole_ok {l : List Ce} (hn : ∀ c ∈ l, 0 ≤ c.n) : (limit.whole l).2 = 0 ↔ (l.map Ce.n).sum ≤ 9223372036854775807 := by
  have h := num.tot_nonneg 0 (l.map Ce.n) (by omega) (by unfold inI; omega) (by intro x hx; obtain ⟨c, hc, rfl⟩ := List.mem_map.1 hx; exact hn c hc)
  unfold limit.whole
  rw [h.2, Int.zero_add]
  split
  · rename_i h1; simp [num.totE, h1]
  · rename_i h1; simp [num.totE]; omega
theorem whole_is {l : List Ce} (hn : ∀ c ∈ l, 0 ≤ c.n) (h : (limit.whole l).2 = 0) : (limit.whole l).1 = (l.map Ce.n).sum := by
  have h1 := (whole_ok hn).1 h
  have h2 := num.tot_nonneg 0 (l.map Ce.n) (by omega) (by unfold inI; omega) (by intro x hx; obtain ⟨c, hc, rfl⟩ := List.mem_map.1 hx; exact hn c hc)
  unfold limit.whole
  rw [h2.2, Int.zero_add, if_pos h1]
  simp [num.totV]
theorem sum_le : ∀ {l m : List Ce}, l.length = m.length → (∀ (i : Nat) (c d : Ce), l[i]? = some c → m[i]? = some d → c.n ≤ d.n) → (l.map Ce.n).sum ≤ (m.map Ce.n).sum
  | [], [], _, _ => Int.le_refl _
  | [], _ :: _, h, _ => by simp at h
  | _ :: _, [], h, _ => by simp at h
  | x :: l, z :: m, h, hle => by
    have h0 := hle 0 x z rfl rfl
    have h1 := sum_le (l := l) (m := m) (by simpa using h) (fun i c d hc hd => hle (i + 1) c d (by simpa using hc) (by simpa using hd))
    simp only [List.map_cons, List.sum_cons]
    omega
theorem acc_at {y : Int} {j i : Nat} {cs : List Ce} {c : Ce} (h : (acc y j cs)[i]? = some c) : cs[j * y.toNat + i]? = some c := by
  unfold acc at h
  rw [List.getElem?_take] at h
  split at h
  · rwa [List.getElem?_drop] at h
  · cases h
theorem acc_len {y : Int} {j : Nat} {cs ds : List Ce} (h : cs.length = ds.length) : (acc y j cs).length = (acc y j ds).length := by
  unfold acc; simp [h]
theorem acc_mem {y : Int} {j : Nat} {cs : List Ce} {c : Ce} (h : c ∈ acc y j cs) : c ∈ cs := List.mem_of_mem_drop (List.mem_of_mem_take h)
/-- where no cell is worth more, what fitted fits. -/
theorem acc_less {y : Int} {j : Nat} {cs ds : List Ce} (hl : ds.length = cs.length) (h0 : ∀ c ∈ cs, 0 ≤ c.n) (h1 : ∀ c ∈ ds, 0 ≤ c.n) (hle : ∀ (i : Nat) (c d : Ce), cs[i]? = some c → ds[i]? = some d → d.n ≤ c.n) (h : (limit.whole (acc y j cs)).2 = 0) :
    (limit.whole (acc y j ds)).2 = 0 ∧ (limit.whole (acc y j ds)).1 ≤ (limit.whole (acc y j cs)).1 := by
  have g0 : ∀ c ∈ acc y j cs, 0 ≤ c.n := fun c hc => h0 c (acc_mem hc)
  have g1 : ∀ c ∈ acc y j ds, 0 ≤ c.n := fun c hc => h1 c (acc_mem hc)
  have hs := sum_le (l := acc y j ds) (m := acc y j cs) (acc_len hl) (fun i c d hc hd => hle _ d c (acc_at hd) (acc_at hc))
  have hw := (whole_ok g0).1 h
  have hd : (limit.whole (acc y j ds)).2 = 0 := (whole_ok g1).2 (by omega)
  exact ⟨hd, by rw [whole_is g1 hd, whole_is g0 h]; exact hs⟩

end Go.Proofs.Ytaagpldanbjacaa.book
end
