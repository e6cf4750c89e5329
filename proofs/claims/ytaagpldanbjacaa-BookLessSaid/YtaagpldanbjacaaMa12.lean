/-
  CellMath, CellMath2
-/
import Derived.Test.YtaagpldanbjacaaMa11
section
namespace Go.Proofs.Ytaagpldanbjacaa.cell
open Go.Proofs.Ytaagpldanbjacaa.frame (inR)
open Go.Proofs.Ytaagpldanbjacaa.order (Or Nt open_ worth)
set_option linter.unusedSimpArgs false
set_option linter.unusedVariables false

/-- a cell: its position, what is open to buy, to sell, what all that is worth. -/
structure Ce where
  (p b s n : Int)
  deriving DecidableEq
/-- what a cell may come to. -/
structure Ex where
  (l s n : Int)
  deriving DecidableEq
def Ce.fine (c : Ce) : Prop := inR c.p ∧ inR c.b ∧ inR c.s ∧ inR c.n
def Ex.fine (x : Ex) : Prop := inR x.l ∧ inR x.s ∧ inR x.n
def Rightly (c : Ce) : Prop := -9223372036854775808 ≤ c.p + c.b ∧ c.p + c.b ≤ 9223372036854775807 ∧ -9223372036854775808 ≤ c.s - c.p ∧ c.s - c.p ≤ 9223372036854775807 ∧ 0 ≤ c.b ∧ 0 ≤ c.s ∧ 0 ≤ c.n
instance (c : Ce) : Decidable (Rightly c) := by unfold Rightly; infer_instance
instance (c : Ce) : Decidable c.fine := by unfold Ce.fine inR; infer_instance
def right (c : Ce) : Bool := decide (Rightly c)
def of_ (c : Ce) : Ex × Int := if right c = true then (⟨c.p + c.b, c.s - c.p, c.n⟩, 0) else (⟨0, 0, 0⟩, 1)
def good (c d : Ce) : Ce × Int := if d.fine ∧ Rightly d then (d, 0) else (c, 3)
def turned (c : Ce) (d x w : Int) : Ce := if d = 1 then ⟨c.p, c.b + x, c.s, c.n + w⟩ else ⟨c.p, c.b, c.s + x, c.n + w⟩
def come (c : Ce) (o : Or) : Ce × Int :=
  if right c = false ∨ order.right o = false then (c, 1) else if (worth o).2 ≠ 0 then (c, 3) else good c (turned c o.d (open_ o) (worth o).1)
def go (c : Ce) (o : Or) : Ce × Int :=
  if right c = false ∨ order.right o = false then (c, 1) else if (worth o).2 ≠ 0 then (c, 3) else good c (turned c o.d (-(open_ o)) (-(worth o).1))
def moved (c : Ce) (side qty : Int) : Ce := ⟨if side = 2 then c.p - qty else c.p + qty, c.b, c.s, c.n⟩
def did (c : Ce) (side qty : Int) : Ce × Int :=
  if right c = false ∨ side < 1 ∨ 2 < side ∨ qty < 0 then (c, 1) else good c (moved c side qty)
def covers (a b : Ex) : Bool := decide (b.l ≤ a.l ∧ b.s ≤ a.s ∧ b.n ≤ a.n)

theorem right_iff {c : Ce} : right c = true ↔ Rightly c := by simp [right]
theorem right_no {c : Ce} : right c = false ↔ ¬ Rightly c := by simp [right]
theorem covers_iff {a b : Ex} : covers a b = true ↔ b.l ≤ a.l ∧ b.s ≤ a.s ∧ b.n ≤ a.n := by simp [covers]
theorem good_ok {c d e : Ce} : good c d = (e, 0) ↔ e = d ∧ d.fine ∧ Rightly d := by
  unfold good
  split
  · rename_i h; simp [h]; exact eq_comm
  · rename_i h; simp; intro _ h1 h2; exact h ⟨h1, h2⟩
theorem good_cases (c d : Ce) : (good c d = (d, 0) ∧ d.fine ∧ Rightly d) ∨ (good c d = (c, 3) ∧ ¬ (d.fine ∧ Rightly d)) := by
  unfold good
  split
  · rename_i h; exact .inl ⟨rfl, h⟩
  · rename_i h; exact .inr ⟨rfl, h⟩
theorem come_cases (c : Ce) (o : Or) : (come c o = (c, 1) ∧ (right c = false ∨ order.right o = false)) ∨ (come c o = (c, 3)) ∨ (come c o = (turned c o.d (open_ o) (worth o).1, 0) ∧ Rightly c ∧ order.Rightly o ∧ (worth o).2 = 0 ∧ (turned c o.d (open_ o) (worth o).1).fine ∧ Rightly (turned c o.d (open_ o) (worth o).1)) := by
  unfold come
  split
  · rename_i h; exact .inl ⟨rfl, h⟩
  rename_i h
  simp only [not_or, Bool.not_eq_false] at h
  split
  · exact .inr (.inl rfl)
  rename_i h2
  simp only [ne_eq, Decidable.not_not] at h2
  rcases good_cases c (turned c o.d (open_ o) (worth o).1) with ⟨e, h3⟩ | ⟨e, h3⟩
  · exact .inr (.inr ⟨e, right_iff.1 h.1, order.right_iff.1 h.2, h2, h3.1, h3.2⟩)
  · exact .inr (.inl e)
theorem come_ok {c d : Ce} {o : Or} (h : come c o = (d, 0)) : d = turned c o.d (open_ o) (worth o).1 ∧ Rightly c ∧ order.Rightly o ∧ (worth o).2 = 0 ∧ d.fine ∧ Rightly d := by
  rcases come_cases c o with ⟨e, _⟩ | e | ⟨e, h1, h2, h3, h4, h5⟩
  · rw [e] at h; simp at h
  · rw [e] at h; simp at h
  · rw [e] at h
    simp only [Prod.mk.injEq, and_true] at h
    subst h
    exact ⟨rfl, h1, h2, h3, h4, h5⟩
theorem come_err {c d : Ce} {o : Or} {e : Int} (h : come c o = (d, e)) : e = 0 ∨ d = c ∧ (e = 1 ∨ e = 3) := by
  rcases come_cases c o with ⟨k, _⟩ | k | ⟨k, _⟩ <;> rw [k] at h <;> simp only [Prod.mk.injEq] at h <;> obtain ⟨rfl, rfl⟩ := h <;> simp
theorem good_fine {c d x : Ce} {e : Int} (hc : c.fine) (h : good c d = (x, e)) : x.fine := by
  rcases good_cases c d with ⟨k, h1, _⟩ | ⟨k, _⟩ <;> rw [k] at h <;> simp only [Prod.mk.injEq] at h <;> obtain ⟨rfl, rfl⟩ := h
  · exact h1
  · exact hc
theorem come_fine {c d : Ce} {o : Or} {e : Int} (hc : c.fine) (h : come c o = (d, e)) : d.fine := by
  unfold come at h
  split at h
  · simp only [Prod.mk.injEq] at h; obtain ⟨rfl, rfl⟩ := h; exact hc
  split at h
  · simp only [Prod.mk.injEq] at h; obtain ⟨rfl, rfl⟩ := h; exact hc
  exact good_fine hc h
theorem go_fine {c d : Ce} {o : Or} {e : Int} (hc : c.fine) (h : go c o = (d, e)) : d.fine := by
  unfold go at h
  split at h
  · simp only [Prod.mk.injEq] at h; obtain ⟨rfl, rfl⟩ := h; exact hc
  split at h
  · simp only [Prod.mk.injEq] at h; obtain ⟨rfl, rfl⟩ := h; exact hc
  exact good_fine hc h
theorem did_fine {c d : Ce} {x y e : Int} (hc : c.fine) (h : did c x y = (d, e)) : d.fine := by
  unfold did at h
  split at h
  · simp only [Prod.mk.injEq] at h; obtain ⟨rfl, rfl⟩ := h; exact hc
  exact good_fine hc h
theorem of_fine {c : Ce} {x : Ex} {e : Int} (hc : c.fine) (h : of_ c = (x, e)) : x.fine := by
  unfold of_ at h
  split at h
  · rename_i hr
    have := right_iff.1 hr
    simp only [Prod.mk.injEq] at h; obtain ⟨rfl, rfl⟩ := h
    unfold Rightly at this
    unfold Ce.fine inR at hc
    unfold Ex.fine inR
    simp only
    omega
  · simp only [Prod.mk.injEq] at h; obtain ⟨rfl, rfl⟩ := h
    simp [Ex.fine, inR]

theorem open_nn {o : Or} (h : order.Rightly o) : 0 ≤ open_ o := by
  unfold open_
  unfold order.Rightly at h
  split
  · omega
  · split <;> omega
theorem worth_nn {o : Or} (h : order.Rightly o) : 0 ≤ (worth o).1 := by
  by_cases h3 : o.h = 3
  · rw [order.worth_done h h3]; decide
  unfold worth
  rw [order.right_iff.2 h, if_neg (by simp), if_neg h3]
  have h1 : 0 ≤ (o.q - o.f) * o.p := order.mul_nn (by unfold order.Rightly at h; omega) (by unfold order.Rightly at h; omega)
  split
  · decide
  split
  · rename_i hm
    have h2 : 0 ≤ (o.m - o.f) * o.r := order.mul_nn (by omega) (by unfold order.Rightly at h; omega)
    split
    · decide
    split
    · exact h2
    · exact h1
  · exact h1
theorem turned_back (c : Ce) (d x w : Int) : turned (turned c d x w) d (-x) (-w) = c := by
  obtain ⟨p, b, s, n⟩ := c
  unfold turned
  by_cases h : d = 1 <;> simp [h] <;> omega
theorem turned_two (c : Ce) (d x w d' x' w' : Int) : turned (turned c d x w) d' x' w' = turned (turned c d' x' w') d x w := by
  obtain ⟨p, b, s, n⟩ := c
  unfold turned
  by_cases h : d = 1 <;> by_cases h' : d' = 1 <;> simp [h, h'] <;> omega
theorem come_go {c d : Ce} {o : Or} (hf : c.fine) (h : come c o = (d, 0)) : go d o = (c, 0) := by
  obtain ⟨rfl, h1, h2, h3, h4, h5⟩ := come_ok h
  unfold go
  rw [right_iff.2 h5, order.right_iff.2 h2, if_neg (by simp), if_neg (by simp [h3]), turned_back]
  exact good_ok.2 ⟨rfl, hf, h1⟩
theorem come_of {c d : Ce} {o : Or} (h : come c o = (d, 0)) : of_ c = (⟨c.p + c.b, c.s - c.p, c.n⟩, 0) ∧ of_ d = (⟨d.p + d.b, d.s - d.p, d.n⟩, 0) ∧ covers ⟨d.p + d.b, d.s - d.p, d.n⟩ ⟨c.p + c.b, c.s - c.p, c.n⟩ = true ∧ right d = true ∧ (o.d = 1 → d.s - d.p = c.s - c.p ∧ d.p + d.b - (c.p + c.b) = open_ o) ∧ (o.d = 2 → d.p + d.b = c.p + c.b ∧ d.s - d.p - (c.s - c.p) = open_ o) := by
  obtain ⟨rfl, h1, h2, h3, h4, h5⟩ := come_ok h
  refine ⟨by rw [of_, if_pos (right_iff.2 h1)], by rw [of_, if_pos (right_iff.2 h5)], ?_, right_iff.2 h5, ?_, ?_⟩
  · rw [covers_iff]
    have ho := open_nn h2
    have hw := worth_nn h2
    generalize open_ o = x at *
    generalize (worth o).1 = y at *
    unfold turned
    by_cases hd : o.d = 1 <;> simp [hd] <;> omega
  · intro hd; unfold turned; simp [hd]; omega
  · intro hd; unfold turned; simp [hd]; omega
theorem come_two {c d q r : Ce} {o p : Or} (h : come c o = (d, 0)) (h1 : come d p = (q, 0)) (h2 : come c p = (r, 0)) : come r o = (q, 0) := by
  obtain ⟨rfl, a1, a2, a3, a4, a5⟩ := come_ok h
  obtain ⟨rfl, b1, b2, b3, b4, b5⟩ := come_ok h1
  obtain ⟨rfl, c1, c2, c3, c4, c5⟩ := come_ok h2
  unfold come
  rw [right_iff.2 c5, order.right_iff.2 a2, if_neg (by simp), if_neg (by simp [a3]), turned_two]
  exact good_ok.2 ⟨rfl, b4, b5⟩
theorem less_right {c : Ce} (hc : c.fine) (hr : Rightly c) {d x w x' w' : Int} (h0 : 0 ≤ x) (h1 : x ≤ x') (h2 : 0 ≤ w) (h3 : w ≤ w') (hf : (turned c d x' w').fine) (hg : Rightly (turned c d x' w')) : (turned c d x w).fine ∧ Rightly (turned c d x w) := by
  obtain ⟨p, b, s, n⟩ := c
  unfold turned at *
  unfold Ce.fine inR Rightly at *
  by_cases h : d = 1 <;> simp only [h, if_true, if_false] at * <;> omega
theorem come_less {c d q : Ce} {o p : Or} (hf : c.fine) (h : come c o = (d, 0)) (h1 : come d p = (q, 0)) : ∃ r, come c p = (r, 0) := by
  obtain ⟨rfl, a1, a2, a3, a4, a5⟩ := come_ok h
  obtain ⟨rfl, b1, b2, b3, b4, b5⟩ := come_ok h1
  refine ⟨turned c p.d (open_ p) (worth p).1, ?_⟩
  unfold come
  rw [right_iff.2 a1, order.right_iff.2 b2, if_neg (by simp), if_neg (by simp [b3])]
  refine good_ok.2 ⟨rfl, ?_⟩
  have ho := open_nn a2
  have hw := worth_nn a2
  have ho' := open_nn b2
  have hw' := worth_nn b2
  generalize open_ o = x at *
  generalize (worth o).1 = y at *
  generalize open_ p = x' at *
  generalize (worth p).1 = y' at *
  obtain ⟨cp, cb, cs, cn⟩ := c
  unfold turned at *
  unfold Ce.fine inR Rightly at *
  by_cases h : o.d = 1 <;> by_cases h' : p.d = 1 <;> simp only [h, h', if_true, if_false] at * <;> omega

theorem open_in {o : Or} (hf : o.fine) : inR (open_ o) := by
  unfold open_
  cases hr : order.right o
  · simp [inR]
  have h := order.right_iff.1 hr
  unfold order.Rightly at h
  unfold order.Or.fine inR at hf
  unfold inR
  split
  · omega
  · split <;> omega
theorem worth_in (o : Or) : inR (worth o).1 := by
  unfold worth
  split
  · simp [inR]
  split
  · simp [inR]
  split
  · simp [inR]
  rename_i h1
  simp only [order.fits, Bool.not_eq_false, decide_eq_true_eq] at h1
  split
  · split
    · simp [inR]
    rename_i h2
    simp only [order.fits, Bool.not_eq_false, decide_eq_true_eq] at h2
    unfold inR
    split
    · exact h2
    · exact h1
  · exact h1
theorem come_1 {c : Ce} {o : Or} (h : right c = false) : come c o = (c, 1) := by unfold come; simp [h]
theorem come_2 {c : Ce} {o : Or} (h : order.right o = false) : come c o = (c, 1) := by unfold come; simp [h]
theorem come_3 {c : Ce} {o : Or} {w e : Int} (h : right c = true) (h1 : order.right o = true) (h2 : worth o = (w, e)) (h3 : e ≠ 0) : come c o = (c, 3) := by unfold come; simp [h, h1, h2, h3]
theorem come_4 {c d : Ce} {o : Or} {w x : Int} (h : right c = true) (h1 : order.right o = true) (h2 : worth o = (w, 0)) (h3 : open_ o = x) (h4 : turned c o.d x w = d) (h5 : ¬ (d.fine ∧ Rightly d)) : come c o = (c, 3) := by
  unfold come good; simp [h, h1, h2, h3, h4]; intro k1 k2; exact h5 ⟨k1, k2⟩
theorem come_0 {c d : Ce} {o : Or} {w x : Int} (h : right c = true) (h1 : order.right o = true) (h2 : worth o = (w, 0)) (h3 : open_ o = x) (h4 : turned c o.d x w = d) (h5 : d.fine) (h6 : Rightly d) : come c o = (d, 0) := by
  unfold come good; simp [h, h1, h2, h3, h4, h5, h6]
theorem go_1 {c : Ce} {o : Or} (h : right c = false) : go c o = (c, 1) := by unfold go; simp [h]
theorem go_2 {c : Ce} {o : Or} (h : order.right o = false) : go c o = (c, 1) := by unfold go; simp [h]
theorem go_3 {c : Ce} {o : Or} {w e : Int} (h : right c = true) (h1 : order.right o = true) (h2 : worth o = (w, e)) (h3 : e ≠ 0) : go c o = (c, 3) := by unfold go; simp [h, h1, h2, h3]
theorem go_4 {c d : Ce} {o : Or} {w x : Int} (h : right c = true) (h1 : order.right o = true) (h2 : worth o = (w, 0)) (h3 : open_ o = x) (h4 : turned c o.d (-x) (-w) = d) (h5 : ¬ (d.fine ∧ Rightly d)) : go c o = (c, 3) := by
  unfold go good; simp [h, h1, h2, h3, h4]; intro k1 k2; exact h5 ⟨k1, k2⟩
theorem go_0 {c d : Ce} {o : Or} {w x : Int} (h : right c = true) (h1 : order.right o = true) (h2 : worth o = (w, 0)) (h3 : open_ o = x) (h4 : turned c o.d (-x) (-w) = d) (h5 : d.fine) (h6 : Rightly d) : go c o = (d, 0) := by
  unfold go good; simp [h, h1, h2, h3, h4, h5, h6]
theorem did_1 {c : Ce} {s q : Int} (h : right c = false ∨ s < 1 ∨ 2 < s ∨ q < 0) : did c s q = (c, 1) := by unfold did; rw [if_pos h]
theorem did_3 {c d : Ce} {s q : Int} (h : right c = true) (h1 : 1 ≤ s) (h2 : s ≤ 2) (h3 : 0 ≤ q) (h4 : moved c s q = d) (h5 : ¬ (d.fine ∧ Rightly d)) : did c s q = (c, 3) := by
  unfold did good; rw [if_neg (by simp [h]; omega), h4, if_neg h5]
theorem did_0 {c d : Ce} {s q : Int} (h : right c = true) (h1 : 1 ≤ s) (h2 : s ≤ 2) (h3 : 0 ≤ q) (h4 : moved c s q = d) (h5 : d.fine) (h6 : Rightly d) : did c s q = (d, 0) := by
  unfold did good; rw [if_neg (by simp [h]; omega), h4, if_pos ⟨h5, h6⟩]
/-- some of an order that is in a cell are done. -/
theorem done_ok {c d : Ce} {o p : Or} {q z : Int} (hf : c.fine) (h : come c o = (d, 0)) (hh : o.h = 2) (ht : order.take o ⟨z, 3, o.i, q, 0⟩ = (p, 0)) :
    ∃ b e x, come c p = (b, 0) ∧ did b o.d q = (e, 0) ∧ of_ e = (x, 0) ∧ covers (⟨d.p + d.b, d.s - d.p, d.n⟩) x = true ∧ e.n ≤ d.n ∧ e.fine := by
  obtain ⟨hd, a1, a2, a3, a4, a5⟩ := come_ok h
  obtain ⟨-, hn, -, htk⟩ := order.take_ok ht
  have hpr := order.took_right a2 htk
  have hsame := order.took_same a2 htk
  obtain ⟨w', hw', hwl⟩ := order.took_worth a2 htk (a := (worth o).1) (by rw [← a3])
  have hwn : 0 ≤ w' := by have := worth_nn hpr; rw [hw'] at this; exact this
  have hon := open_nn hpr
  have hq : 1 ≤ q := (order.tell_fill (order.noteOk_iff.1 hn).2.2).1
  have hop : open_ p + q ≤ open_ o := by
    have h2 := order.right_iff.2 a2
    have h3 := order.right_iff.2 hpr
    unfold open_
    rw [h2, h3]
    unfold order.Rightly at a2 hpr
    cases htk <;> simp only [order.done, hh] at * <;> simp <;> (repeat' split) <;> omega
  have hside := (hsame.2.2.2.2.2.1)
  have hdd : o.d = 1 ∨ o.d = 2 := by unfold order.Rightly at a2; omega
  generalize hx : open_ o = x at *
  generalize hx' : open_ p = x' at *
  generalize hy : (worth o).1 = y at *
  obtain ⟨cp, cb, cs, cn⟩ := c
  have key : ∀ b : Ce, turned ⟨cp, cb, cs, cn⟩ p.d x' w' = b → b.fine ∧ Rightly b ∧ (moved b o.d q).fine ∧ Rightly (moved b o.d q) ∧ (moved b o.d q).n ≤ d.n ∧ (moved b o.d q).p + (moved b o.d q).b ≤ d.p + d.b ∧ (moved b o.d q).s - (moved b o.d q).p ≤ d.s - d.p := by
    intro b hb
    subst hd hb
    rw [hside]
    unfold turned moved Ce.fine inR Rightly at *
    rcases hdd with e | e <;> simp only [e, if_true, if_false, show ¬ (2 : Int) = 1 by decide, show ¬ (1 : Int) = 2 by decide] at * <;> omega
  obtain ⟨k1, k2, k3, k4, k5, k6, k7⟩ := key _ rfl
  refine ⟨_, _, _, come_0 (right_iff.2 a1) (order.right_iff.2 hpr) hw' hx' rfl k1 k2, did_0 (right_iff.2 k2) (by omega) (by omega) (by omega) rfl k3 k4, by rw [of_, if_pos (right_iff.2 k4)], ?_, k5, k3⟩
  rw [covers_iff]
  exact ⟨k6, k7, k5⟩

end Go.Proofs.Ytaagpldanbjacaa.cell
end
section
namespace Go.Proofs.Ytaagpldanbjacaa.cell

theorem covers_self (a : Ex) : covers a a = true := covers_iff.2 ⟨Int.le_refl _, Int.le_refl _, Int.le_refl _⟩
theorem covers_trans {a b c : Ex} (h : covers a b = true) (g : covers b c = true) : covers a c = true := by
  rw [covers_iff] at *; omega
theorem covers_anti {a b : Ex} (h : covers a b = true) (g : covers b a = true) : a = b := by
  rw [covers_iff] at *
  obtain ⟨l, s, n⟩ := a
  obtain ⟨l', s', n'⟩ := b
  simp only [Ex.mk.injEq] at *
  omega

end Go.Proofs.Ytaagpldanbjacaa.cell
end
