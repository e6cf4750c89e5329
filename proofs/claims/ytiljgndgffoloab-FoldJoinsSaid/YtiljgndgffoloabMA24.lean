/-
  CellMv
-/
import Derived.Test.YtiljgndgffoloabMA15
import Derived.Test.YtiljgndgffoloabMA21
import Derived.Test.YtiljgndgffoloabMA22
import Derived.Test.YtiljgndgffoloabMA23
import Derived.Test.YtiljgndgffoloabMA17
namespace Go.Proofs.Ytiljgndgffoloab.book
open Go.RowKit Go.Proofs.Ytiljgndgffoloab
open Go.Proofs.Ytiljgndgffoloab.order (Or open_ worth)
open Go.Proofs.Ytiljgndgffoloab.cell (Ce Ex)
open Go.Proofs.Ytiljgndgffoloab.rec (Rc)
set_option linter.unusedVariables false
set_option linter.unusedSimpArgs false
set_option maxRecDepth 20000

variable {w0 : World} {D : List Fact}
def addE (a b : Int) : Int := if inI (a + b) then 0 else 3
def subE (a b : Int) : Int := if inI (a - b) then 0 else 3
def subV (a b : Int) : Int := if inI (a - b) then a - b else 0
theorem subV_in (a b : Int) : inI (subV a b) := by unfold subV; split; assumption; unfold inI; omega
theorem addE_iff {a b : Int} : addE a b = 0 ↔ inI (a + b) := by unfold addE; split <;> simp_all
theorem subE_iff {a b : Int} : subE a b = 0 ↔ inI (a - b) := by unfold subE; split <;> simp_all
theorem addV_eq {a b : Int} (h : addE a b = 0) : addV a b = a + b := by unfold addV; rw [if_pos (addE_iff.1 h)]
theorem subV_eq {a b : Int} (h : subE a b = 0) : subV a b = a - b := by unfold subV; rw [if_pos (subE_iff.1 h)]
theorem l_add {a b : Int} (ha : inI a) (hb : inI b) : Gives Try.prog w0 D 38 #[.int .i64 a, .int .i64 b] (.tuple #[.int .i64 (addV a b), .int .i64 (addE a b)]) := by
  unfold addV addE
  by_cases h : inI (a + b)
  · rw [if_pos h, if_pos h]; exact gives_same (fun w => num.add_ok a b w ha hb h)
  · rw [if_neg h, if_neg h]; exact gives_same (fun w => num.add_over a b w ha hb h)
theorem l_sub {a b : Int} (ha : inI a) (hb : inI b) : Gives Try.prog w0 D 39 #[.int .i64 a, .int .i64 b] (.tuple #[.int .i64 (subV a b), .int .i64 (subE a b)]) := by
  unfold subV subE
  by_cases h : inI (a - b)
  · rw [if_pos h, if_pos h]; exact gives_same (fun w => num.sub_ok a b w ha hb h)
  · rw [if_neg h, if_neg h]; exact gives_same (fun w => num.sub_over a b w ha hb h)
theorem l_cright {c : Ce} (hf : c.fine) : Gives Try.prog w0 D 32 #[.agg (cell.cc c)] (.bool (cell.right c)) := gives (fun w => cell.right_is c.p c.b c.s c.n hf rfl w)
theorem l_oright {o : Or} (hf : o.fine) : Gives Try.prog w0 D 30 #[.agg (order.oc o)] (.bool (order.right o)) := gives (fun w => order.right_is o.i o.a o.y o.d o.q o.p o.f o.h o.m o.r o.v o.g hf rfl w)
theorem l_worth {o : Or} (hf : o.fine) : Gives Try.prog w0 D 72 #[.agg (order.oc o)] (.tuple #[.int .i64 (worth o).1, .int .i64 (worth o).2]) := gives (fun w => order.worth_is o.i o.a o.y o.d o.q o.p o.f o.h o.m o.r o.v o.g hf rfl w)
theorem l_open {o : Or} (hf : o.fine) : Gives Try.prog w0 D 73 #[.agg (order.oc o)] (.int .i64 (open_ o)) := gives (fun w => order.open_is o.i o.a o.y o.d o.q o.p o.f o.h o.m o.r o.v o.g hf rfl w)
theorem leaf_eq {x y : Ce × Int} (h : x = y) : (.tuple #[.agg (cell.cc y.1), .int .i64 y.2] : Value) = .tuple #[.agg (cell.cc x.1), .int .i64 x.2] := by rw [h]
theorem side_of {o : Or} (h : order.right o = true) (hd : ¬ o.d = 2) : o.d = 1 := by have := order.right_iff.1 h; unfold order.Rightly at this; omega
theorem come_leaf1 {c : Ce} {o : Or} (h : cell.right c = false ∨ order.right o = false) : cell.come c o = (c, 1) := by unfold cell.come; rw [if_pos h]
theorem come_leaf2 {c : Ce} {o : Or} (h1 : cell.right c = true) (h2 : order.right o = true) (h : ¬ (worth o).2 = 0) : cell.come c o = (c, 3) := by unfold cell.come; rw [if_neg (by simp [h1, h2]), if_pos h]
theorem come_leaf3 {c : Ce} {o : Or} (hc : c.fine) (h1 : cell.right c = true) (h2 : order.right o = true) (h : (worth o).2 = 0) (hd : o.d = 2) (h3 : addE c.s (open_ o) = 0) (h4 : addE c.n (worth o).1 = 0) (h5 : cell.right ⟨c.p, c.b, addV c.s (open_ o), addV c.n (worth o).1⟩ = true) : cell.come c o = (⟨c.p, c.b, addV c.s (open_ o), addV c.n (worth o).1⟩, 0) := by
  unfold cell.come
  rw [if_neg (by simp [h1, h2]), if_neg (by simp [h])]
  rw [addV_eq h3, addV_eq h4] at *
  have e : cell.turned c o.d (open_ o) ((worth o).1) = ⟨c.p, c.b, c.s + open_ o, c.n + (worth o).1⟩ := by unfold cell.turned; rw [if_neg (by omega)] <;> simp [Int.sub_eq_add_neg]
  rw [e]
  exact cell.good_ok.2 ⟨rfl, ⟨hc.1, hc.2.1, addE_iff.1 h3, addE_iff.1 h4⟩, cell.right_iff.1 h5⟩
theorem come_leaf4 {c : Ce} {o : Or} (hc : c.fine) (h1 : cell.right c = true) (h2 : order.right o = true) (h : (worth o).2 = 0) (hd : o.d = 1) (h3 : addE c.b (open_ o) = 0) (h4 : addE c.n (worth o).1 = 0) (h5 : cell.right ⟨c.p, addV c.b (open_ o), c.s, addV c.n (worth o).1⟩ = true) : cell.come c o = (⟨c.p, addV c.b (open_ o), c.s, addV c.n (worth o).1⟩, 0) := by
  unfold cell.come
  rw [if_neg (by simp [h1, h2]), if_neg (by simp [h])]
  rw [addV_eq h3, addV_eq h4] at *
  have e : cell.turned c o.d (open_ o) ((worth o).1) = ⟨c.p, c.b + open_ o, c.s, c.n + (worth o).1⟩ := by unfold cell.turned; rw [if_pos (by omega)] <;> simp [Int.sub_eq_add_neg]
  rw [e]
  exact cell.good_ok.2 ⟨rfl, ⟨hc.1, addE_iff.1 h3, hc.2.2.1, addE_iff.1 h4⟩, cell.right_iff.1 h5⟩
theorem come_leaf5 {c : Ce} {o : Or} (h1 : cell.right c = true) (h2 : order.right o = true) (h : (worth o).2 = 0) (hd : o.d = 2) (hb : ¬ addE c.s (open_ o) = 0 ∨ ¬ addE c.n (worth o).1 = 0 ∨ cell.right ⟨c.p, c.b, addV c.s (open_ o), addV c.n (worth o).1⟩ = false) : cell.come c o = (c, 3) := by
  unfold cell.come
  rw [if_neg (by simp [h1, h2]), if_neg (by simp [h])]
  have e : cell.turned c o.d (open_ o) ((worth o).1) = ⟨c.p, c.b, c.s + open_ o, c.n + (worth o).1⟩ := by unfold cell.turned; rw [if_neg (by omega)] <;> simp [Int.sub_eq_add_neg]
  rw [e]
  unfold cell.good
  rw [if_neg]
  rintro ⟨hf, hr⟩
  have h3 : addE c.s (open_ o) = 0 := addE_iff.2 hf.2.2.1
  have h4 : addE c.n (worth o).1 = 0 := addE_iff.2 hf.2.2.2
  rw [addV_eq h3, addV_eq h4] at hb
  rcases hb with hb | hb | hb
  · exact hb h3
  · exact hb h4
  · rw [cell.right_iff.2 hr] at hb; cases hb
theorem come_leaf6 {c : Ce} {o : Or} (h1 : cell.right c = true) (h2 : order.right o = true) (h : (worth o).2 = 0) (hd : o.d = 1) (hb : ¬ addE c.b (open_ o) = 0 ∨ ¬ addE c.n (worth o).1 = 0 ∨ cell.right ⟨c.p, addV c.b (open_ o), c.s, addV c.n (worth o).1⟩ = false) : cell.come c o = (c, 3) := by
  unfold cell.come
  rw [if_neg (by simp [h1, h2]), if_neg (by simp [h])]
  have e : cell.turned c o.d (open_ o) ((worth o).1) = ⟨c.p, c.b + open_ o, c.s, c.n + (worth o).1⟩ := by unfold cell.turned; rw [if_pos (by omega)] <;> simp [Int.sub_eq_add_neg]
  rw [e]
  unfold cell.good
  rw [if_neg]
  rintro ⟨hf, hr⟩
  have h3 : addE c.b (open_ o) = 0 := addE_iff.2 hf.2.1
  have h4 : addE c.n (worth o).1 = 0 := addE_iff.2 hf.2.2.2
  rw [addV_eq h3, addV_eq h4] at hb
  rcases hb with hb | hb | hb
  · exact hb h3
  · exact hb h4
  · rw [cell.right_iff.2 hr] at hb; cases hb
theorem go_leaf1 {c : Ce} {o : Or} (h : cell.right c = false ∨ order.right o = false) : cell.go c o = (c, 1) := by unfold cell.go; rw [if_pos h]
theorem go_leaf2 {c : Ce} {o : Or} (h1 : cell.right c = true) (h2 : order.right o = true) (h : ¬ (worth o).2 = 0) : cell.go c o = (c, 3) := by unfold cell.go; rw [if_neg (by simp [h1, h2]), if_pos h]
theorem go_leaf3 {c : Ce} {o : Or} (hc : c.fine) (h1 : cell.right c = true) (h2 : order.right o = true) (h : (worth o).2 = 0) (hd : o.d = 2) (h3 : subE c.s (open_ o) = 0) (h4 : subE c.n (worth o).1 = 0) (h5 : cell.right ⟨c.p, c.b, subV c.s (open_ o), subV c.n (worth o).1⟩ = true) : cell.go c o = (⟨c.p, c.b, subV c.s (open_ o), subV c.n (worth o).1⟩, 0) := by
  unfold cell.go
  rw [if_neg (by simp [h1, h2]), if_neg (by simp [h])]
  rw [subV_eq h3, subV_eq h4] at *
  have e : cell.turned c o.d (-(open_ o)) (-(worth o).1) = ⟨c.p, c.b, c.s - open_ o, c.n - (worth o).1⟩ := by unfold cell.turned; rw [if_neg (by omega)] <;> simp [Int.sub_eq_add_neg]
  rw [e]
  exact cell.good_ok.2 ⟨rfl, ⟨hc.1, hc.2.1, subE_iff.1 h3, subE_iff.1 h4⟩, cell.right_iff.1 h5⟩
theorem go_leaf4 {c : Ce} {o : Or} (hc : c.fine) (h1 : cell.right c = true) (h2 : order.right o = true) (h : (worth o).2 = 0) (hd : o.d = 1) (h3 : subE c.b (open_ o) = 0) (h4 : subE c.n (worth o).1 = 0) (h5 : cell.right ⟨c.p, subV c.b (open_ o), c.s, subV c.n (worth o).1⟩ = true) : cell.go c o = (⟨c.p, subV c.b (open_ o), c.s, subV c.n (worth o).1⟩, 0) := by
  unfold cell.go
  rw [if_neg (by simp [h1, h2]), if_neg (by simp [h])]
  rw [subV_eq h3, subV_eq h4] at *
  have e : cell.turned c o.d (-(open_ o)) (-(worth o).1) = ⟨c.p, c.b - open_ o, c.s, c.n - (worth o).1⟩ := by unfold cell.turned; rw [if_pos (by omega)] <;> simp [Int.sub_eq_add_neg]
  rw [e]
  exact cell.good_ok.2 ⟨rfl, ⟨hc.1, subE_iff.1 h3, hc.2.2.1, subE_iff.1 h4⟩, cell.right_iff.1 h5⟩
theorem go_leaf5 {c : Ce} {o : Or} (h1 : cell.right c = true) (h2 : order.right o = true) (h : (worth o).2 = 0) (hd : o.d = 2) (hb : ¬ subE c.s (open_ o) = 0 ∨ ¬ subE c.n (worth o).1 = 0 ∨ cell.right ⟨c.p, c.b, subV c.s (open_ o), subV c.n (worth o).1⟩ = false) : cell.go c o = (c, 3) := by
  unfold cell.go
  rw [if_neg (by simp [h1, h2]), if_neg (by simp [h])]
  have e : cell.turned c o.d (-(open_ o)) (-(worth o).1) = ⟨c.p, c.b, c.s - open_ o, c.n - (worth o).1⟩ := by unfold cell.turned; rw [if_neg (by omega)] <;> simp [Int.sub_eq_add_neg]
  rw [e]
  unfold cell.good
  rw [if_neg]
  rintro ⟨hf, hr⟩
  have h3 : subE c.s (open_ o) = 0 := subE_iff.2 hf.2.2.1
  have h4 : subE c.n (worth o).1 = 0 := subE_iff.2 hf.2.2.2
  rw [subV_eq h3, subV_eq h4] at hb
  rcases hb with hb | hb | hb
  · exact hb h3
  · exact hb h4
  · rw [cell.right_iff.2 hr] at hb; cases hb
theorem go_leaf6 {c : Ce} {o : Or} (h1 : cell.right c = true) (h2 : order.right o = true) (h : (worth o).2 = 0) (hd : o.d = 1) (hb : ¬ subE c.b (open_ o) = 0 ∨ ¬ subE c.n (worth o).1 = 0 ∨ cell.right ⟨c.p, subV c.b (open_ o), c.s, subV c.n (worth o).1⟩ = false) : cell.go c o = (c, 3) := by
  unfold cell.go
  rw [if_neg (by simp [h1, h2]), if_neg (by simp [h])]
  have e : cell.turned c o.d (-(open_ o)) (-(worth o).1) = ⟨c.p, c.b - open_ o, c.s, c.n - (worth o).1⟩ := by unfold cell.turned; rw [if_pos (by omega)] <;> simp [Int.sub_eq_add_neg]
  rw [e]
  unfold cell.good
  rw [if_neg]
  rintro ⟨hf, hr⟩
  have h3 : subE c.b (open_ o) = 0 := subE_iff.2 hf.2.1
  have h4 : subE c.n (worth o).1 = 0 := subE_iff.2 hf.2.2.2
  rw [subV_eq h3, subV_eq h4] at hb
  rcases hb with hb | hb | hb
  · exact hb h3
  · exact hb h4
  · rw [cell.right_iff.2 hr] at hb; cases hb
theorem did_bad {c : Ce} {d q : Int} (h : cell.right c = false ∨ (d < 1 ∨ 2 < d ∨ q < 0)) : cell.did c d q = (c, 1) := by unfold cell.did; rw [if_pos h]
theorem did_s {c : Ce} {d q : Int} (hc : c.fine) (h : cell.right c = true) (h1 : ¬ (d < 1 ∨ 2 < d)) (h2 : ¬ q < 0) (hd : d = 2) (h3 : subE c.p q = 0) (h4 : cell.right ⟨subV c.p q, c.b, c.s, c.n⟩ = true) : cell.did c d q = (⟨subV c.p q, c.b, c.s, c.n⟩, 0) := by
  unfold cell.did cell.moved
  rw [if_neg (by simp only [h]; simp; omega), if_pos hd]
  rw [subV_eq h3] at *
  exact cell.good_ok.2 ⟨rfl, ⟨subE_iff.1 h3, hc.2⟩, cell.right_iff.1 h4⟩
theorem did_sn {c : Ce} {d q : Int} (h : cell.right c = true) (h1 : ¬ (d < 1 ∨ 2 < d)) (h2 : ¬ q < 0) (hd : d = 2) (h3 : ¬ subE c.p q = 0 ∨ cell.right ⟨subV c.p q, c.b, c.s, c.n⟩ = false) : cell.did c d q = (c, 3) := by
  unfold cell.did cell.moved
  rw [if_neg (by simp only [h]; simp; omega), if_pos hd]
  unfold cell.good
  rw [if_neg]
  rintro ⟨hf, hr⟩
  have h5 : subE c.p q = 0 := subE_iff.2 hf.1
  rw [subV_eq h5, cell.right_iff.2 hr] at h3
  simp [h5] at h3
theorem did_b {c : Ce} {d q : Int} (hc : c.fine) (h : cell.right c = true) (h1 : ¬ (d < 1 ∨ 2 < d)) (h2 : ¬ q < 0) (hd : ¬ d = 2) (h3 : addE c.p q = 0) (h4 : cell.right ⟨addV c.p q, c.b, c.s, c.n⟩ = true) : cell.did c d q = (⟨addV c.p q, c.b, c.s, c.n⟩, 0) := by
  unfold cell.did cell.moved
  rw [if_neg (by simp only [h]; simp; omega), if_neg hd]
  rw [addV_eq h3] at *
  exact cell.good_ok.2 ⟨rfl, ⟨addE_iff.1 h3, hc.2⟩, cell.right_iff.1 h4⟩
theorem did_bn {c : Ce} {d q : Int} (h : cell.right c = true) (h1 : ¬ (d < 1 ∨ 2 < d)) (h2 : ¬ q < 0) (hd : ¬ d = 2) (h3 : ¬ addE c.p q = 0 ∨ cell.right ⟨addV c.p q, c.b, c.s, c.n⟩ = false) : cell.did c d q = (c, 3) := by
  unfold cell.did cell.moved
  rw [if_neg (by simp only [h]; simp; omega), if_neg hd]
  unfold cell.good
  rw [if_neg]
  rintro ⟨hf, hr⟩
  have h5 : addE c.p q = 0 := addE_iff.2 hf.1
  rw [addV_eq h5, cell.right_iff.2 hr] at h3
  simp [h5] at h3
theorem moved_come (c : Ce) (o : Or) (hc : c.fine) (ho : o.fine) (w : World) : Calls Try.prog 54 #[.agg (cell.cc c), .agg (order.oc o), .func (.func 38) #[] #[]] w fun e w' => e = .returned (.tuple #[.agg (cell.cc (cell.come c o).1), .int .i64 (cell.come c o).2]) ∧ Below w.heap.size w w' :=
  calls_by (fn := Try.f54) (r := .tuple #[.agg (cell.cc (cell.come c o).1), .int .i64 (cell.come c o).2]) (t := .cs (cell.right c) (.k (.cs (order.right o) (.c (.tuple #[.int .i64 ((worth o).1), .int .i64 ((worth o).2)]) (.s .z (.s (.o [3] (.two (.c (.int .i64 (open_ o)) (.c (.tuple #[.int .i64 (addV c.s (open_ o)), .int .i64 (addE c.s (open_ o))]) (.c (.tuple #[.int .i64 (addV c.n ((worth o).1)), .int .i64 (addE c.n ((worth o).1))]) (.s (.k (.k .z)) (.k (.s (.k .z) (.k (.cs (cell.right (⟨c.p, c.b, (addV c.s (open_ o)), (addV c.n ((worth o).1))⟩)) .z .z)))))))) (.c (.int .i64 (open_ o)) (.c (.tuple #[.int .i64 (addV c.s (open_ o)), .int .i64 (addE c.s (open_ o))]) (.c (.tuple #[.int .i64 (addV c.n ((worth o).1)), .int .i64 (addE c.n ((worth o).1))]) (.s (.k (.k .z)) (.k (.s (.k .z) (.k (.cs (cell.right (⟨c.p, c.b, (addV c.s (open_ o)), (addV c.n ((worth o).1))⟩)) .z .z)))))))))) (.o [3] (.two (.c (.int .i64 (open_ o)) (.c (.tuple #[.int .i64 (addV c.b (open_ o)), .int .i64 (addE c.b (open_ o))]) (.c (.tuple #[.int .i64 (addV c.n ((worth o).1)), .int .i64 (addE c.n ((worth o).1))]) (.s (.k (.k .z)) (.k (.s (.k .z) (.k (.cs (cell.right (⟨c.p, (addV c.b (open_ o)), c.s, (addV c.n ((worth o).1))⟩)) .z .z)))))))) (.c (.int .i64 (open_ o)) (.c (.tuple #[.int .i64 (addV c.b (open_ o)), .int .i64 (addE c.b (open_ o))]) (.c (.tuple #[.int .i64 (addV c.n ((worth o).1)), .int .i64 (addE c.n ((worth o).1))]) (.s (.k (.k .z)) (.k (.s (.k .z) (.k (.cs (cell.right (⟨c.p, (addV c.b (open_ o)), c.s, (addV c.n ((worth o).1))⟩)) .z .z))))))))))))) .z)) (.k .z)) (X :=
∀ g0 : Nat, ∀ g1 : Nat, ∀ g2 : Nat, Gives Try.prog w [] 32 #[.agg (cell.cc c)] (.bool (cell.right c)) ∧ ((cell.right c) = true → Gives Try.prog w [] 30 #[.agg (order.oc o)] (.bool (order.right o)) ∧ ((order.right o) = true → Gives Try.prog w [] 72 #[.agg (order.oc o)] (.tuple #[.int .i64 ((worth o).1), .int .i64 ((worth o).2)]) ∧ ((!decide (((worth o).2) = 0)) = true → (.tuple #[.agg (cell.cc c), .int .i64 3] : Value) = .tuple #[.agg (cell.cc (cell.come c o).1), .int .i64 (cell.come c o).2]) ∧ ((!decide (((worth o).2) = 0)) = false → ∀ g3 : Nat, ((decide (o.d = 2)) = true → (Gives Try.prog w [] 73 #[.agg (order.oc o)] (.int .i64 (open_ o)) ∧ Gives Try.prog w [] 38 #[.int .i64 c.s, .int .i64 (open_ o)] (.tuple #[.int .i64 (addV c.s (open_ o)), .int .i64 (addE c.s (open_ o))]) ∧ Gives Try.prog w [] 38 #[.int .i64 c.n, .int .i64 ((worth o).1)] (.tuple #[.int .i64 (addV c.n ((worth o).1)), .int .i64 (addE c.n ((worth o).1))]) ∧ ((!decide ((addE c.s (open_ o)) = 0)) = true → (.tuple #[.agg (cell.cc c), .int .i64 3] : Value) = .tuple #[.agg (cell.cc (cell.come c o).1), .int .i64 (cell.come c o).2]) ∧ ((!decide ((addE c.s (open_ o)) = 0)) = false → ((!decide ((addE c.n ((worth o).1)) = 0)) = true → (.tuple #[.agg (cell.cc c), .int .i64 3] : Value) = .tuple #[.agg (cell.cc (cell.come c o).1), .int .i64 (cell.come c o).2]) ∧ ((!decide ((addE c.n ((worth o).1)) = 0)) = false → Gives Try.prog w [] 32 #[.agg #[.int .i64 c.p, .int .i64 c.b, .int .i64 (addV c.s (open_ o)), .int .i64 (addV c.n ((worth o).1))]] (.bool (cell.right (⟨c.p, c.b, (addV c.s (open_ o)), (addV c.n ((worth o).1))⟩))) ∧ ((cell.right (⟨c.p, c.b, (addV c.s (open_ o)), (addV c.n ((worth o).1))⟩)) = true → (.tuple #[.agg #[.int .i64 c.p, .int .i64 c.b, .int .i64 (addV c.s (open_ o)), .int .i64 (addV c.n ((worth o).1))], .int .i64 0] : Value) = .tuple #[.agg (cell.cc (cell.come c o).1), .int .i64 (cell.come c o).2]) ∧ ((cell.right (⟨c.p, c.b, (addV c.s (open_ o)), (addV c.n ((worth o).1))⟩)) = false → (.tuple #[.agg (cell.cc c), .int .i64 3] : Value) = .tuple #[.agg (cell.cc (cell.come c o).1), .int .i64 (cell.come c o).2])))) ∧ (Gives Try.prog w [] 73 #[.agg (order.oc o)] (.int .i64 (open_ o)) ∧ Gives Try.prog w [] 38 #[.int .i64 c.s, .int .i64 (open_ o)] (.tuple #[.int .i64 (addV c.s (open_ o)), .int .i64 (addE c.s (open_ o))]) ∧ Gives Try.prog w [] 38 #[.int .i64 c.n, .int .i64 ((worth o).1)] (.tuple #[.int .i64 (addV c.n ((worth o).1)), .int .i64 (addE c.n ((worth o).1))]) ∧ ((!decide ((addE c.s (open_ o)) = 0)) = true → (.tuple #[.agg (cell.cc c), .int .i64 3] : Value) = .tuple #[.agg (cell.cc (cell.come c o).1), .int .i64 (cell.come c o).2]) ∧ ((!decide ((addE c.s (open_ o)) = 0)) = false → ((!decide ((addE c.n ((worth o).1)) = 0)) = true → (.tuple #[.agg (cell.cc c), .int .i64 3] : Value) = .tuple #[.agg (cell.cc (cell.come c o).1), .int .i64 (cell.come c o).2]) ∧ ((!decide ((addE c.n ((worth o).1)) = 0)) = false → Gives Try.prog w [] 32 #[.agg #[.int .i64 c.p, .int .i64 c.b, .int .i64 (addV c.s (open_ o)), .int .i64 (addV c.n ((worth o).1))]] (.bool (cell.right (⟨c.p, c.b, (addV c.s (open_ o)), (addV c.n ((worth o).1))⟩))) ∧ ((cell.right (⟨c.p, c.b, (addV c.s (open_ o)), (addV c.n ((worth o).1))⟩)) = true → (.tuple #[.agg #[.int .i64 c.p, .int .i64 c.b, .int .i64 (addV c.s (open_ o)), .int .i64 (addV c.n ((worth o).1))], .int .i64 0] : Value) = .tuple #[.agg (cell.cc (cell.come c o).1), .int .i64 (cell.come c o).2]) ∧ ((cell.right (⟨c.p, c.b, (addV c.s (open_ o)), (addV c.n ((worth o).1))⟩)) = false → (.tuple #[.agg (cell.cc c), .int .i64 3] : Value) = .tuple #[.agg (cell.cc (cell.come c o).1), .int .i64 (cell.come c o).2]))))) ∧ ((decide (o.d = 2)) = false → (Gives Try.prog w [] 73 #[.agg (order.oc o)] (.int .i64 (open_ o)) ∧ Gives Try.prog w [] 38 #[.int .i64 c.b, .int .i64 (open_ o)] (.tuple #[.int .i64 (addV c.b (open_ o)), .int .i64 (addE c.b (open_ o))]) ∧ Gives Try.prog w [] 38 #[.int .i64 c.n, .int .i64 ((worth o).1)] (.tuple #[.int .i64 (addV c.n ((worth o).1)), .int .i64 (addE c.n ((worth o).1))]) ∧ ((!decide ((addE c.b (open_ o)) = 0)) = true → (.tuple #[.agg (cell.cc c), .int .i64 3] : Value) = .tuple #[.agg (cell.cc (cell.come c o).1), .int .i64 (cell.come c o).2]) ∧ ((!decide ((addE c.b (open_ o)) = 0)) = false → ((!decide ((addE c.n ((worth o).1)) = 0)) = true → (.tuple #[.agg (cell.cc c), .int .i64 3] : Value) = .tuple #[.agg (cell.cc (cell.come c o).1), .int .i64 (cell.come c o).2]) ∧ ((!decide ((addE c.n ((worth o).1)) = 0)) = false → Gives Try.prog w [] 32 #[.agg #[.int .i64 c.p, .int .i64 (addV c.b (open_ o)), .int .i64 c.s, .int .i64 (addV c.n ((worth o).1))]] (.bool (cell.right (⟨c.p, (addV c.b (open_ o)), c.s, (addV c.n ((worth o).1))⟩))) ∧ ((cell.right (⟨c.p, (addV c.b (open_ o)), c.s, (addV c.n ((worth o).1))⟩)) = true → (.tuple #[.agg #[.int .i64 c.p, .int .i64 (addV c.b (open_ o)), .int .i64 c.s, .int .i64 (addV c.n ((worth o).1))], .int .i64 0] : Value) = .tuple #[.agg (cell.cc (cell.come c o).1), .int .i64 (cell.come c o).2]) ∧ ((cell.right (⟨c.p, (addV c.b (open_ o)), c.s, (addV c.n ((worth o).1))⟩)) = false → (.tuple #[.agg (cell.cc c), .int .i64 3] : Value) = .tuple #[.agg (cell.cc (cell.come c o).1), .int .i64 (cell.come c o).2])))) ∧ (Gives Try.prog w [] 73 #[.agg (order.oc o)] (.int .i64 (open_ o)) ∧ Gives Try.prog w [] 38 #[.int .i64 c.b, .int .i64 (open_ o)] (.tuple #[.int .i64 (addV c.b (open_ o)), .int .i64 (addE c.b (open_ o))]) ∧ Gives Try.prog w [] 38 #[.int .i64 c.n, .int .i64 ((worth o).1)] (.tuple #[.int .i64 (addV c.n ((worth o).1)), .int .i64 (addE c.n ((worth o).1))]) ∧ ((!decide ((addE c.b (open_ o)) = 0)) = true → (.tuple #[.agg (cell.cc c), .int .i64 3] : Value) = .tuple #[.agg (cell.cc (cell.come c o).1), .int .i64 (cell.come c o).2]) ∧ ((!decide ((addE c.b (open_ o)) = 0)) = false → ((!decide ((addE c.n ((worth o).1)) = 0)) = true → (.tuple #[.agg (cell.cc c), .int .i64 3] : Value) = .tuple #[.agg (cell.cc (cell.come c o).1), .int .i64 (cell.come c o).2]) ∧ ((!decide ((addE c.n ((worth o).1)) = 0)) = false → Gives Try.prog w [] 32 #[.agg #[.int .i64 c.p, .int .i64 (addV c.b (open_ o)), .int .i64 c.s, .int .i64 (addV c.n ((worth o).1))]] (.bool (cell.right (⟨c.p, (addV c.b (open_ o)), c.s, (addV c.n ((worth o).1))⟩))) ∧ ((cell.right (⟨c.p, (addV c.b (open_ o)), c.s, (addV c.n ((worth o).1))⟩)) = true → (.tuple #[.agg #[.int .i64 c.p, .int .i64 (addV c.b (open_ o)), .int .i64 c.s, .int .i64 (addV c.n ((worth o).1))], .int .i64 0] : Value) = .tuple #[.agg (cell.cc (cell.come c o).1), .int .i64 (cell.come c o).2]) ∧ ((cell.right (⟨c.p, (addV c.b (open_ o)), c.s, (addV c.n ((worth o).1))⟩)) = false → (.tuple #[.agg (cell.cc c), .int .i64 3] : Value) = .tuple #[.agg (cell.cc (cell.come c o).1), .int .i64 (cell.come c o).2]))))))) ∧ ((order.right o) = false → (.tuple #[.agg (cell.cc c), .int .i64 1] : Value) = .tuple #[.agg (cell.cc (cell.come c o).1), .int .i64 (cell.come c o).2])) ∧ ((cell.right c) = false → (.tuple #[.agg (cell.cc c), .int .i64 1] : Value) = .tuple #[.agg (cell.cc (cell.come c o).1), .int .i64 (cell.come c o).2])) Try.func54 (by kernel_rfl)
  (fun g0 => fun g1 => fun g2 => ⟨l_cright hc, fun h1 => ⟨l_oright ho, fun h2 => ⟨l_worth ho, ⟨fun h3 => have h3 : ¬ ((worth o).2) = 0 := (by simpa using h3)
(leaf_eq (come_leaf2 h1 h2 h3)),
 fun h3 => have h3 : ((worth o).2) = 0 := (by simpa using h3)
 fun g3 => ⟨fun h4 => have h4 : o.d = 2 := (by simpa using h4)
⟨⟨l_open ho, ⟨l_add (hc.2.2.1) (cell.open_in ho), ⟨l_add (hc.2.2.2) (cell.worth_in o), ⟨fun h5 => have h5 : ¬ (addE c.s (open_ o)) = 0 := (by simpa using h5)
(leaf_eq (come_leaf5 h1 h2 h3 h4 (.inl h5))),
 fun h5 => have h5 : (addE c.s (open_ o)) = 0 := (by simpa using h5)
⟨fun h6 => have h6 : ¬ (addE c.n ((worth o).1)) = 0 := (by simpa using h6)
(leaf_eq (come_leaf5 h1 h2 h3 h4 (.inr (.inl h6)))),
 fun h6 => have h6 : (addE c.n ((worth o).1)) = 0 := (by simpa using h6)
⟨l_cright ⟨(hc.1), (hc.2.1), (addV_in _ _), (addV_in _ _)⟩, fun h7 => (leaf_eq (come_leaf3 hc h1 h2 h3 h4 h5 h6 h7)),
 fun h7 => (leaf_eq (come_leaf5 h1 h2 h3 h4 (.inr (.inr h7))))⟩⟩⟩⟩⟩⟩,
⟨l_open ho, ⟨l_add (hc.2.2.1) (cell.open_in ho), ⟨l_add (hc.2.2.2) (cell.worth_in o), ⟨fun h8 => have h8 : ¬ (addE c.s (open_ o)) = 0 := (by simpa using h8)
(leaf_eq (come_leaf5 h1 h2 h3 h4 (.inl h8))),
 fun h8 => have h8 : (addE c.s (open_ o)) = 0 := (by simpa using h8)
⟨fun h9 => have h9 : ¬ (addE c.n ((worth o).1)) = 0 := (by simpa using h9)
(leaf_eq (come_leaf5 h1 h2 h3 h4 (.inr (.inl h9)))),
 fun h9 => have h9 : (addE c.n ((worth o).1)) = 0 := (by simpa using h9)
⟨l_cright ⟨(hc.1), (hc.2.1), (addV_in _ _), (addV_in _ _)⟩, fun h10 => (leaf_eq (come_leaf3 hc h1 h2 h3 h4 h8 h9 h10)),
 fun h10 => (leaf_eq (come_leaf5 h1 h2 h3 h4 (.inr (.inr h10))))⟩⟩⟩⟩⟩⟩⟩,
 fun h4 => have h4 : ¬ o.d = 2 := (by simpa using h4)
⟨⟨l_open ho, ⟨l_add (hc.2.1) (cell.open_in ho), ⟨l_add (hc.2.2.2) (cell.worth_in o), ⟨fun h11 => have h11 : ¬ (addE c.b (open_ o)) = 0 := (by simpa using h11)
(leaf_eq (come_leaf6 h1 h2 h3 (side_of h2 h4) (.inl h11))),
 fun h11 => have h11 : (addE c.b (open_ o)) = 0 := (by simpa using h11)
⟨fun h12 => have h12 : ¬ (addE c.n ((worth o).1)) = 0 := (by simpa using h12)
(leaf_eq (come_leaf6 h1 h2 h3 (side_of h2 h4) (.inr (.inl h12)))),
 fun h12 => have h12 : (addE c.n ((worth o).1)) = 0 := (by simpa using h12)
⟨l_cright ⟨(hc.1), (addV_in _ _), (hc.2.2.1), (addV_in _ _)⟩, fun h13 => (leaf_eq (come_leaf4 hc h1 h2 h3 (side_of h2 h4) h11 h12 h13)),
 fun h13 => (leaf_eq (come_leaf6 h1 h2 h3 (side_of h2 h4) (.inr (.inr h13))))⟩⟩⟩⟩⟩⟩,
⟨l_open ho, ⟨l_add (hc.2.1) (cell.open_in ho), ⟨l_add (hc.2.2.2) (cell.worth_in o), ⟨fun h14 => have h14 : ¬ (addE c.b (open_ o)) = 0 := (by simpa using h14)
(leaf_eq (come_leaf6 h1 h2 h3 (side_of h2 h4) (.inl h14))),
 fun h14 => have h14 : (addE c.b (open_ o)) = 0 := (by simpa using h14)
⟨fun h15 => have h15 : ¬ (addE c.n ((worth o).1)) = 0 := (by simpa using h15)
(leaf_eq (come_leaf6 h1 h2 h3 (side_of h2 h4) (.inr (.inl h15)))),
 fun h15 => have h15 : (addE c.n ((worth o).1)) = 0 := (by simpa using h15)
⟨l_cright ⟨(hc.1), (addV_in _ _), (hc.2.2.1), (addV_in _ _)⟩, fun h16 => (leaf_eq (come_leaf4 hc h1 h2 h3 (side_of h2 h4) h14 h15 h16)),
 fun h16 => (leaf_eq (come_leaf6 h1 h2 h3 (side_of h2 h4) (.inr (.inr h16))))⟩⟩⟩⟩⟩⟩⟩⟩⟩⟩,
 fun h2 => (leaf_eq (come_leaf1 (.inr h2)))⟩,
 fun h1 => (leaf_eq (come_leaf1 (.inl h1)))⟩)
theorem moved_go (c : Ce) (o : Or) (hc : c.fine) (ho : o.fine) (w : World) : Calls Try.prog 54 #[.agg (cell.cc c), .agg (order.oc o), .func (.func 39) #[] #[]] w fun e w' => e = .returned (.tuple #[.agg (cell.cc (cell.go c o).1), .int .i64 (cell.go c o).2]) ∧ Below w.heap.size w w' :=
  calls_by (fn := Try.f54) (r := .tuple #[.agg (cell.cc (cell.go c o).1), .int .i64 (cell.go c o).2]) (t := .cs (cell.right c) (.k (.cs (order.right o) (.c (.tuple #[.int .i64 ((worth o).1), .int .i64 ((worth o).2)]) (.s .z (.s (.o [3] (.two (.c (.int .i64 (open_ o)) (.c (.tuple #[.int .i64 (subV c.s (open_ o)), .int .i64 (subE c.s (open_ o))]) (.c (.tuple #[.int .i64 (subV c.n ((worth o).1)), .int .i64 (subE c.n ((worth o).1))]) (.s (.k (.k .z)) (.k (.s (.k .z) (.k (.cs (cell.right (⟨c.p, c.b, (subV c.s (open_ o)), (subV c.n ((worth o).1))⟩)) .z .z)))))))) (.c (.int .i64 (open_ o)) (.c (.tuple #[.int .i64 (subV c.s (open_ o)), .int .i64 (subE c.s (open_ o))]) (.c (.tuple #[.int .i64 (subV c.n ((worth o).1)), .int .i64 (subE c.n ((worth o).1))]) (.s (.k (.k .z)) (.k (.s (.k .z) (.k (.cs (cell.right (⟨c.p, c.b, (subV c.s (open_ o)), (subV c.n ((worth o).1))⟩)) .z .z)))))))))) (.o [3] (.two (.c (.int .i64 (open_ o)) (.c (.tuple #[.int .i64 (subV c.b (open_ o)), .int .i64 (subE c.b (open_ o))]) (.c (.tuple #[.int .i64 (subV c.n ((worth o).1)), .int .i64 (subE c.n ((worth o).1))]) (.s (.k (.k .z)) (.k (.s (.k .z) (.k (.cs (cell.right (⟨c.p, (subV c.b (open_ o)), c.s, (subV c.n ((worth o).1))⟩)) .z .z)))))))) (.c (.int .i64 (open_ o)) (.c (.tuple #[.int .i64 (subV c.b (open_ o)), .int .i64 (subE c.b (open_ o))]) (.c (.tuple #[.int .i64 (subV c.n ((worth o).1)), .int .i64 (subE c.n ((worth o).1))]) (.s (.k (.k .z)) (.k (.s (.k .z) (.k (.cs (cell.right (⟨c.p, (subV c.b (open_ o)), c.s, (subV c.n ((worth o).1))⟩)) .z .z))))))))))))) .z)) (.k .z)) (X :=
∀ g0 : Nat, ∀ g1 : Nat, ∀ g2 : Nat, Gives Try.prog w [] 32 #[.agg (cell.cc c)] (.bool (cell.right c)) ∧ ((cell.right c) = true → Gives Try.prog w [] 30 #[.agg (order.oc o)] (.bool (order.right o)) ∧ ((order.right o) = true → Gives Try.prog w [] 72 #[.agg (order.oc o)] (.tuple #[.int .i64 ((worth o).1), .int .i64 ((worth o).2)]) ∧ ((!decide (((worth o).2) = 0)) = true → (.tuple #[.agg (cell.cc c), .int .i64 3] : Value) = .tuple #[.agg (cell.cc (cell.go c o).1), .int .i64 (cell.go c o).2]) ∧ ((!decide (((worth o).2) = 0)) = false → ∀ g3 : Nat, ((decide (o.d = 2)) = true → (Gives Try.prog w [] 73 #[.agg (order.oc o)] (.int .i64 (open_ o)) ∧ Gives Try.prog w [] 39 #[.int .i64 c.s, .int .i64 (open_ o)] (.tuple #[.int .i64 (subV c.s (open_ o)), .int .i64 (subE c.s (open_ o))]) ∧ Gives Try.prog w [] 39 #[.int .i64 c.n, .int .i64 ((worth o).1)] (.tuple #[.int .i64 (subV c.n ((worth o).1)), .int .i64 (subE c.n ((worth o).1))]) ∧ ((!decide ((subE c.s (open_ o)) = 0)) = true → (.tuple #[.agg (cell.cc c), .int .i64 3] : Value) = .tuple #[.agg (cell.cc (cell.go c o).1), .int .i64 (cell.go c o).2]) ∧ ((!decide ((subE c.s (open_ o)) = 0)) = false → ((!decide ((subE c.n ((worth o).1)) = 0)) = true → (.tuple #[.agg (cell.cc c), .int .i64 3] : Value) = .tuple #[.agg (cell.cc (cell.go c o).1), .int .i64 (cell.go c o).2]) ∧ ((!decide ((subE c.n ((worth o).1)) = 0)) = false → Gives Try.prog w [] 32 #[.agg #[.int .i64 c.p, .int .i64 c.b, .int .i64 (subV c.s (open_ o)), .int .i64 (subV c.n ((worth o).1))]] (.bool (cell.right (⟨c.p, c.b, (subV c.s (open_ o)), (subV c.n ((worth o).1))⟩))) ∧ ((cell.right (⟨c.p, c.b, (subV c.s (open_ o)), (subV c.n ((worth o).1))⟩)) = true → (.tuple #[.agg #[.int .i64 c.p, .int .i64 c.b, .int .i64 (subV c.s (open_ o)), .int .i64 (subV c.n ((worth o).1))], .int .i64 0] : Value) = .tuple #[.agg (cell.cc (cell.go c o).1), .int .i64 (cell.go c o).2]) ∧ ((cell.right (⟨c.p, c.b, (subV c.s (open_ o)), (subV c.n ((worth o).1))⟩)) = false → (.tuple #[.agg (cell.cc c), .int .i64 3] : Value) = .tuple #[.agg (cell.cc (cell.go c o).1), .int .i64 (cell.go c o).2])))) ∧ (Gives Try.prog w [] 73 #[.agg (order.oc o)] (.int .i64 (open_ o)) ∧ Gives Try.prog w [] 39 #[.int .i64 c.s, .int .i64 (open_ o)] (.tuple #[.int .i64 (subV c.s (open_ o)), .int .i64 (subE c.s (open_ o))]) ∧ Gives Try.prog w [] 39 #[.int .i64 c.n, .int .i64 ((worth o).1)] (.tuple #[.int .i64 (subV c.n ((worth o).1)), .int .i64 (subE c.n ((worth o).1))]) ∧ ((!decide ((subE c.s (open_ o)) = 0)) = true → (.tuple #[.agg (cell.cc c), .int .i64 3] : Value) = .tuple #[.agg (cell.cc (cell.go c o).1), .int .i64 (cell.go c o).2]) ∧ ((!decide ((subE c.s (open_ o)) = 0)) = false → ((!decide ((subE c.n ((worth o).1)) = 0)) = true → (.tuple #[.agg (cell.cc c), .int .i64 3] : Value) = .tuple #[.agg (cell.cc (cell.go c o).1), .int .i64 (cell.go c o).2]) ∧ ((!decide ((subE c.n ((worth o).1)) = 0)) = false → Gives Try.prog w [] 32 #[.agg #[.int .i64 c.p, .int .i64 c.b, .int .i64 (subV c.s (open_ o)), .int .i64 (subV c.n ((worth o).1))]] (.bool (cell.right (⟨c.p, c.b, (subV c.s (open_ o)), (subV c.n ((worth o).1))⟩))) ∧ ((cell.right (⟨c.p, c.b, (subV c.s (open_ o)), (subV c.n ((worth o).1))⟩)) = true → (.tuple #[.agg #[.int .i64 c.p, .int .i64 c.b, .int .i64 (subV c.s (open_ o)), .int .i64 (subV c.n ((worth o).1))], .int .i64 0] : Value) = .tuple #[.agg (cell.cc (cell.go c o).1), .int .i64 (cell.go c o).2]) ∧ ((cell.right (⟨c.p, c.b, (subV c.s (open_ o)), (subV c.n ((worth o).1))⟩)) = false → (.tuple #[.agg (cell.cc c), .int .i64 3] : Value) = .tuple #[.agg (cell.cc (cell.go c o).1), .int .i64 (cell.go c o).2]))))) ∧ ((decide (o.d = 2)) = false → (Gives Try.prog w [] 73 #[.agg (order.oc o)] (.int .i64 (open_ o)) ∧ Gives Try.prog w [] 39 #[.int .i64 c.b, .int .i64 (open_ o)] (.tuple #[.int .i64 (subV c.b (open_ o)), .int .i64 (subE c.b (open_ o))]) ∧ Gives Try.prog w [] 39 #[.int .i64 c.n, .int .i64 ((worth o).1)] (.tuple #[.int .i64 (subV c.n ((worth o).1)), .int .i64 (subE c.n ((worth o).1))]) ∧ ((!decide ((subE c.b (open_ o)) = 0)) = true → (.tuple #[.agg (cell.cc c), .int .i64 3] : Value) = .tuple #[.agg (cell.cc (cell.go c o).1), .int .i64 (cell.go c o).2]) ∧ ((!decide ((subE c.b (open_ o)) = 0)) = false → ((!decide ((subE c.n ((worth o).1)) = 0)) = true → (.tuple #[.agg (cell.cc c), .int .i64 3] : Value) = .tuple #[.agg (cell.cc (cell.go c o).1), .int .i64 (cell.go c o).2]) ∧ ((!decide ((subE c.n ((worth o).1)) = 0)) = false → Gives Try.prog w [] 32 #[.agg #[.int .i64 c.p, .int .i64 (subV c.b (open_ o)), .int .i64 c.s, .int .i64 (subV c.n ((worth o).1))]] (.bool (cell.right (⟨c.p, (subV c.b (open_ o)), c.s, (subV c.n ((worth o).1))⟩))) ∧ ((cell.right (⟨c.p, (subV c.b (open_ o)), c.s, (subV c.n ((worth o).1))⟩)) = true → (.tuple #[.agg #[.int .i64 c.p, .int .i64 (subV c.b (open_ o)), .int .i64 c.s, .int .i64 (subV c.n ((worth o).1))], .int .i64 0] : Value) = .tuple #[.agg (cell.cc (cell.go c o).1), .int .i64 (cell.go c o).2]) ∧ ((cell.right (⟨c.p, (subV c.b (open_ o)), c.s, (subV c.n ((worth o).1))⟩)) = false → (.tuple #[.agg (cell.cc c), .int .i64 3] : Value) = .tuple #[.agg (cell.cc (cell.go c o).1), .int .i64 (cell.go c o).2])))) ∧ (Gives Try.prog w [] 73 #[.agg (order.oc o)] (.int .i64 (open_ o)) ∧ Gives Try.prog w [] 39 #[.int .i64 c.b, .int .i64 (open_ o)] (.tuple #[.int .i64 (subV c.b (open_ o)), .int .i64 (subE c.b (open_ o))]) ∧ Gives Try.prog w [] 39 #[.int .i64 c.n, .int .i64 ((worth o).1)] (.tuple #[.int .i64 (subV c.n ((worth o).1)), .int .i64 (subE c.n ((worth o).1))]) ∧ ((!decide ((subE c.b (open_ o)) = 0)) = true → (.tuple #[.agg (cell.cc c), .int .i64 3] : Value) = .tuple #[.agg (cell.cc (cell.go c o).1), .int .i64 (cell.go c o).2]) ∧ ((!decide ((subE c.b (open_ o)) = 0)) = false → ((!decide ((subE c.n ((worth o).1)) = 0)) = true → (.tuple #[.agg (cell.cc c), .int .i64 3] : Value) = .tuple #[.agg (cell.cc (cell.go c o).1), .int .i64 (cell.go c o).2]) ∧ ((!decide ((subE c.n ((worth o).1)) = 0)) = false → Gives Try.prog w [] 32 #[.agg #[.int .i64 c.p, .int .i64 (subV c.b (open_ o)), .int .i64 c.s, .int .i64 (subV c.n ((worth o).1))]] (.bool (cell.right (⟨c.p, (subV c.b (open_ o)), c.s, (subV c.n ((worth o).1))⟩))) ∧ ((cell.right (⟨c.p, (subV c.b (open_ o)), c.s, (subV c.n ((worth o).1))⟩)) = true → (.tuple #[.agg #[.int .i64 c.p, .int .i64 (subV c.b (open_ o)), .int .i64 c.s, .int .i64 (subV c.n ((worth o).1))], .int .i64 0] : Value) = .tuple #[.agg (cell.cc (cell.go c o).1), .int .i64 (cell.go c o).2]) ∧ ((cell.right (⟨c.p, (subV c.b (open_ o)), c.s, (subV c.n ((worth o).1))⟩)) = false → (.tuple #[.agg (cell.cc c), .int .i64 3] : Value) = .tuple #[.agg (cell.cc (cell.go c o).1), .int .i64 (cell.go c o).2]))))))) ∧ ((order.right o) = false → (.tuple #[.agg (cell.cc c), .int .i64 1] : Value) = .tuple #[.agg (cell.cc (cell.go c o).1), .int .i64 (cell.go c o).2])) ∧ ((cell.right c) = false → (.tuple #[.agg (cell.cc c), .int .i64 1] : Value) = .tuple #[.agg (cell.cc (cell.go c o).1), .int .i64 (cell.go c o).2])) Try.func54 (by kernel_rfl)
  (fun g0 => fun g1 => fun g2 => ⟨l_cright hc, fun h1 => ⟨l_oright ho, fun h2 => ⟨l_worth ho, ⟨fun h3 => have h3 : ¬ ((worth o).2) = 0 := (by simpa using h3)
(leaf_eq (go_leaf2 h1 h2 h3)),
 fun h3 => have h3 : ((worth o).2) = 0 := (by simpa using h3)
 fun g3 => ⟨fun h4 => have h4 : o.d = 2 := (by simpa using h4)
⟨⟨l_open ho, ⟨l_sub (hc.2.2.1) (cell.open_in ho), ⟨l_sub (hc.2.2.2) (cell.worth_in o), ⟨fun h5 => have h5 : ¬ (subE c.s (open_ o)) = 0 := (by simpa using h5)
(leaf_eq (go_leaf5 h1 h2 h3 h4 (.inl h5))),
 fun h5 => have h5 : (subE c.s (open_ o)) = 0 := (by simpa using h5)
⟨fun h6 => have h6 : ¬ (subE c.n ((worth o).1)) = 0 := (by simpa using h6)
(leaf_eq (go_leaf5 h1 h2 h3 h4 (.inr (.inl h6)))),
 fun h6 => have h6 : (subE c.n ((worth o).1)) = 0 := (by simpa using h6)
⟨l_cright ⟨(hc.1), (hc.2.1), (subV_in _ _), (subV_in _ _)⟩, fun h7 => (leaf_eq (go_leaf3 hc h1 h2 h3 h4 h5 h6 h7)),
 fun h7 => (leaf_eq (go_leaf5 h1 h2 h3 h4 (.inr (.inr h7))))⟩⟩⟩⟩⟩⟩,
⟨l_open ho, ⟨l_sub (hc.2.2.1) (cell.open_in ho), ⟨l_sub (hc.2.2.2) (cell.worth_in o), ⟨fun h8 => have h8 : ¬ (subE c.s (open_ o)) = 0 := (by simpa using h8)
(leaf_eq (go_leaf5 h1 h2 h3 h4 (.inl h8))),
 fun h8 => have h8 : (subE c.s (open_ o)) = 0 := (by simpa using h8)
⟨fun h9 => have h9 : ¬ (subE c.n ((worth o).1)) = 0 := (by simpa using h9)
(leaf_eq (go_leaf5 h1 h2 h3 h4 (.inr (.inl h9)))),
 fun h9 => have h9 : (subE c.n ((worth o).1)) = 0 := (by simpa using h9)
⟨l_cright ⟨(hc.1), (hc.2.1), (subV_in _ _), (subV_in _ _)⟩, fun h10 => (leaf_eq (go_leaf3 hc h1 h2 h3 h4 h8 h9 h10)),
 fun h10 => (leaf_eq (go_leaf5 h1 h2 h3 h4 (.inr (.inr h10))))⟩⟩⟩⟩⟩⟩⟩,
 fun h4 => have h4 : ¬ o.d = 2 := (by simpa using h4)
⟨⟨l_open ho, ⟨l_sub (hc.2.1) (cell.open_in ho), ⟨l_sub (hc.2.2.2) (cell.worth_in o), ⟨fun h11 => have h11 : ¬ (subE c.b (open_ o)) = 0 := (by simpa using h11)
(leaf_eq (go_leaf6 h1 h2 h3 (side_of h2 h4) (.inl h11))),
 fun h11 => have h11 : (subE c.b (open_ o)) = 0 := (by simpa using h11)
⟨fun h12 => have h12 : ¬ (subE c.n ((worth o).1)) = 0 := (by simpa using h12)
(leaf_eq (go_leaf6 h1 h2 h3 (side_of h2 h4) (.inr (.inl h12)))),
 fun h12 => have h12 : (subE c.n ((worth o).1)) = 0 := (by simpa using h12)
⟨l_cright ⟨(hc.1), (subV_in _ _), (hc.2.2.1), (subV_in _ _)⟩, fun h13 => (leaf_eq (go_leaf4 hc h1 h2 h3 (side_of h2 h4) h11 h12 h13)),
 fun h13 => (leaf_eq (go_leaf6 h1 h2 h3 (side_of h2 h4) (.inr (.inr h13))))⟩⟩⟩⟩⟩⟩,
⟨l_open ho, ⟨l_sub (hc.2.1) (cell.open_in ho), ⟨l_sub (hc.2.2.2) (cell.worth_in o), ⟨fun h14 => have h14 : ¬ (subE c.b (open_ o)) = 0 := (by simpa using h14)
(leaf_eq (go_leaf6 h1 h2 h3 (side_of h2 h4) (.inl h14))),
 fun h14 => have h14 : (subE c.b (open_ o)) = 0 := (by simpa using h14)
⟨fun h15 => have h15 : ¬ (subE c.n ((worth o).1)) = 0 := (by simpa using h15)
(leaf_eq (go_leaf6 h1 h2 h3 (side_of h2 h4) (.inr (.inl h15)))),
 fun h15 => have h15 : (subE c.n ((worth o).1)) = 0 := (by simpa using h15)
⟨l_cright ⟨(hc.1), (subV_in _ _), (hc.2.2.1), (subV_in _ _)⟩, fun h16 => (leaf_eq (go_leaf4 hc h1 h2 h3 (side_of h2 h4) h14 h15 h16)),
 fun h16 => (leaf_eq (go_leaf6 h1 h2 h3 (side_of h2 h4) (.inr (.inr h16))))⟩⟩⟩⟩⟩⟩⟩⟩⟩⟩,
 fun h2 => (leaf_eq (go_leaf1 (.inr h2)))⟩,
 fun h1 => (leaf_eq (go_leaf1 (.inl h1)))⟩)
theorem lcome (c : Ce) (o : Or) (hc : c.fine) (ho : o.fine) (w : World) : Calls Try.prog 33 #[.agg (cell.cc c), .agg (order.oc o)] w fun e w' => e = .returned (.tuple #[.agg (cell.cc (cell.come c o).1), .int .i64 (cell.come c o).2]) ∧ Below w.heap.size w w' :=
  calls_by (fn := Try.f33) (r := .tuple #[.agg (cell.cc (cell.come c o).1), .int .i64 (cell.come c o).2]) (t := .c (.tuple #[.agg (cell.cc ((cell.come c o).1)), .int .i64 ((cell.come c o).2)]) .z) (X :=
∀ g0 : Nat, ∀ g1 : Nat, ∀ g2 : Nat, Gives Try.prog w [] 54 #[.agg (cell.cc c), .agg (order.oc o), .func (.func 38) #[] #[]] (.tuple #[.agg (cell.cc ((cell.come c o).1)), .int .i64 ((cell.come c o).2)]) ∧ (.tuple #[.agg (cell.cc ((cell.come c o).1)), .int .i64 ((cell.come c o).2)] : Value) = .tuple #[.agg (cell.cc (cell.come c o).1), .int .i64 (cell.come c o).2]) Try.func33 (by kernel_rfl)
  (fun g0 => fun g1 => fun g2 => ⟨gives (moved_come c o hc ho), rfl⟩)
theorem lgo (c : Ce) (o : Or) (hc : c.fine) (ho : o.fine) (w : World) : Calls Try.prog 83 #[.agg (cell.cc c), .agg (order.oc o)] w fun e w' => e = .returned (.tuple #[.agg (cell.cc (cell.go c o).1), .int .i64 (cell.go c o).2]) ∧ Below w.heap.size w w' :=
  calls_by (fn := Try.f83) (r := .tuple #[.agg (cell.cc (cell.go c o).1), .int .i64 (cell.go c o).2]) (t := .c (.tuple #[.agg (cell.cc ((cell.go c o).1)), .int .i64 ((cell.go c o).2)]) .z) (X :=
∀ g0 : Nat, ∀ g1 : Nat, ∀ g2 : Nat, Gives Try.prog w [] 54 #[.agg (cell.cc c), .agg (order.oc o), .func (.func 39) #[] #[]] (.tuple #[.agg (cell.cc ((cell.go c o).1)), .int .i64 ((cell.go c o).2)]) ∧ (.tuple #[.agg (cell.cc ((cell.go c o).1)), .int .i64 ((cell.go c o).2)] : Value) = .tuple #[.agg (cell.cc (cell.go c o).1), .int .i64 (cell.go c o).2]) Try.func83 (by kernel_rfl)
  (fun g0 => fun g1 => fun g2 => ⟨gives (moved_go c o hc ho), rfl⟩)
theorem ldid (c : Ce) (d q : Int) (hc : c.fine) (hd : frame.inR d) (hq : frame.inR q) (w : World) : Calls Try.prog 84 #[.agg (cell.cc c), .int .i64 d, .int .i64 q] w fun e w' => e = .returned (.tuple #[.agg (cell.cc (cell.did c d q).1), .int .i64 (cell.did c d q).2]) ∧ Below w.heap.size w w' :=
  calls_by (fn := Try.f84) (r := .tuple #[.agg (cell.cc (cell.did c d q).1), .int .i64 (cell.did c d q).2]) (t := .cs (cell.right c) (.k (.s (.k (.s (.k .z) (.k (.s .z (.m true (.c (.tuple #[.int .i64 (subV c.p q), .int .i64 (subE c.p q)]) (.s (.k .z) (.k (.cs (cell.right (⟨(subV c.p q), c.b, c.s, c.n⟩)) .z .z))))))))) (.k (.k (.s .z (.m false (.c (.tuple #[.int .i64 (addV c.p q), .int .i64 (addE c.p q)]) (.s (.k .z) (.k (.cs (cell.right (⟨(addV c.p q), c.b, c.s, c.n⟩)) .z .z)))))))))) (.k (.k .z))) (X :=
∀ g0 : Nat, ∀ g1 : Nat, Gives Try.prog w [] 32 #[.agg (cell.cc c)] (.bool (cell.right c)) ∧ ((cell.right c) = true → ((!decide (d = 1)) = true → ((!decide (d = 2)) = true → (.tuple #[.agg (cell.cc c), .int .i64 1] : Value) = .tuple #[.agg (cell.cc (cell.did c d q).1), .int .i64 (cell.did c d q).2]) ∧ ((!decide (d = 2)) = false → ((decide (q < 0)) = true → (.tuple #[.agg (cell.cc c), .int .i64 1] : Value) = .tuple #[.agg (cell.cc (cell.did c d q).1), .int .i64 (cell.did c d q).2]) ∧ ((decide (q < 0)) = false → (decide (d = 2)) = true ∧ Gives Try.prog w [] 39 #[.int .i64 c.p, .int .i64 q] (.tuple #[.int .i64 (subV c.p q), .int .i64 (subE c.p q)]) ∧ ∀ g2 : Nat, ((!decide ((subE c.p q) = 0)) = true → (.tuple #[.agg (cell.cc c), .int .i64 3] : Value) = .tuple #[.agg (cell.cc (cell.did c d q).1), .int .i64 (cell.did c d q).2]) ∧ ((!decide ((subE c.p q) = 0)) = false → Gives Try.prog w [] 32 #[.agg #[.int .i64 (subV c.p q), .int .i64 c.b, .int .i64 c.s, .int .i64 c.n]] (.bool (cell.right (⟨(subV c.p q), c.b, c.s, c.n⟩))) ∧ ((cell.right (⟨(subV c.p q), c.b, c.s, c.n⟩)) = true → (.tuple #[.agg #[.int .i64 (subV c.p q), .int .i64 c.b, .int .i64 c.s, .int .i64 c.n], .int .i64 0] : Value) = .tuple #[.agg (cell.cc (cell.did c d q).1), .int .i64 (cell.did c d q).2]) ∧ ((cell.right (⟨(subV c.p q), c.b, c.s, c.n⟩)) = false → (.tuple #[.agg (cell.cc c), .int .i64 3] : Value) = .tuple #[.agg (cell.cc (cell.did c d q).1), .int .i64 (cell.did c d q).2]))))) ∧ ((!decide (d = 1)) = false → ((decide (q < 0)) = true → (.tuple #[.agg (cell.cc c), .int .i64 1] : Value) = .tuple #[.agg (cell.cc (cell.did c d q).1), .int .i64 (cell.did c d q).2]) ∧ ((decide (q < 0)) = false → (decide (d = 2)) = false ∧ Gives Try.prog w [] 38 #[.int .i64 c.p, .int .i64 q] (.tuple #[.int .i64 (addV c.p q), .int .i64 (addE c.p q)]) ∧ ∀ g2 : Nat, ((!decide ((addE c.p q) = 0)) = true → (.tuple #[.agg (cell.cc c), .int .i64 3] : Value) = .tuple #[.agg (cell.cc (cell.did c d q).1), .int .i64 (cell.did c d q).2]) ∧ ((!decide ((addE c.p q) = 0)) = false → Gives Try.prog w [] 32 #[.agg #[.int .i64 (addV c.p q), .int .i64 c.b, .int .i64 c.s, .int .i64 c.n]] (.bool (cell.right (⟨(addV c.p q), c.b, c.s, c.n⟩))) ∧ ((cell.right (⟨(addV c.p q), c.b, c.s, c.n⟩)) = true → (.tuple #[.agg #[.int .i64 (addV c.p q), .int .i64 c.b, .int .i64 c.s, .int .i64 c.n], .int .i64 0] : Value) = .tuple #[.agg (cell.cc (cell.did c d q).1), .int .i64 (cell.did c d q).2]) ∧ ((cell.right (⟨(addV c.p q), c.b, c.s, c.n⟩)) = false → (.tuple #[.agg (cell.cc c), .int .i64 3] : Value) = .tuple #[.agg (cell.cc (cell.did c d q).1), .int .i64 (cell.did c d q).2]))))) ∧ ((cell.right c) = false → (.tuple #[.agg (cell.cc c), .int .i64 1] : Value) = .tuple #[.agg (cell.cc (cell.did c d q).1), .int .i64 (cell.did c d q).2])) Try.func84 (by kernel_rfl)
  (fun g0 => fun g1 => ⟨l_cright hc, fun h1 => ⟨fun h2 => have h2 : ¬ d = 1 := (by simpa using h2)
⟨fun h3 => have h3 : ¬ d = 2 := (by simpa using h3)
(leaf_eq (did_bad (.inr (by omega)))),
 fun h3 => have h3 : d = 2 := (by simpa using h3)
⟨fun h4 => have h4 : q < 0 := (by simpa using h4)
(leaf_eq (did_bad (.inr (by omega)))),
 fun h4 => have h4 : ¬ q < 0 := (by simpa using h4)
⟨by simp only [decide_eq_true_eq, decide_eq_false_iff_not, Bool.not_eq_true', Bool.not_eq_false', Bool.not_eq_eq_eq_not, Bool.not_true, Bool.not_false]; omega, ⟨l_sub (hc.1) hq, fun g2 => ⟨fun h5 => have h5 : ¬ (subE c.p q) = 0 := (by simpa using h5)
(leaf_eq (did_sn h1 (by omega) (by omega) (by omega) (.inl h5))),
 fun h5 => have h5 : (subE c.p q) = 0 := (by simpa using h5)
⟨l_cright ⟨(subV_in _ _), (hc.2.1), (hc.2.2.1), (hc.2.2.2)⟩, fun h6 => (leaf_eq (did_s hc h1 (by omega) (by omega) (by omega) h5 h6)),
 fun h6 => (leaf_eq (did_sn h1 (by omega) (by omega) (by omega) (.inr h6)))⟩⟩⟩⟩⟩⟩,
 fun h2 => have h2 : d = 1 := (by simpa using h2)
⟨fun h7 => have h7 : q < 0 := (by simpa using h7)
(leaf_eq (did_bad (.inr (by omega)))),
 fun h7 => have h7 : ¬ q < 0 := (by simpa using h7)
⟨by simp only [decide_eq_true_eq, decide_eq_false_iff_not, Bool.not_eq_true', Bool.not_eq_false', Bool.not_eq_eq_eq_not, Bool.not_true, Bool.not_false]; omega, ⟨l_add (hc.1) hq, fun g2 => ⟨fun h8 => have h8 : ¬ (addE c.p q) = 0 := (by simpa using h8)
(leaf_eq (did_bn h1 (by omega) (by omega) (by omega) (.inl h8))),
 fun h8 => have h8 : (addE c.p q) = 0 := (by simpa using h8)
⟨l_cright ⟨(addV_in _ _), (hc.2.1), (hc.2.2.1), (hc.2.2.2)⟩, fun h9 => (leaf_eq (did_b hc h1 (by omega) (by omega) (by omega) h8 h9)),
 fun h9 => (leaf_eq (did_bn h1 (by omega) (by omega) (by omega) (.inr h9)))⟩⟩⟩⟩⟩⟩,
 fun h1 => (leaf_eq (did_bad (.inl h1)))⟩)

end Go.Proofs.Ytiljgndgffoloab.book
