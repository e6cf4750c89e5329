/-
  RefV
-/
import Derived.Test.YtbeimapldejgmaaGreatMB24
import Derived.Test.YtbeimapldejgmaaGreatMB15
import Derived.Test.YtbeimapldejgmaaGreatMB37
import Derived.Test.YtbeimapldejgmaaGreatMB38
import Derived.Test.YtbeimapldejgmaaGreatMB39
set_option linter.unusedVariables false
set_option linter.unusedSimpArgs false
namespace Go.Proofs.YtbeimapldejgmaaGreat.book
open Go.RowKit Go.Proofs.YtbeimapldejgmaaGreat
open Go.Proofs.YtbeimapldejgmaaGreat.order (Or open_ worth oz)
open Go.Proofs.YtbeimapldejgmaaGreat.cell (Ce Ex)
open Go.Proofs.YtbeimapldejgmaaGreat.rec (Rc)
set_option maxRecDepth 20000
variable {w0 : World} {D : List Fact}
def subB (a b : Int) : Bool := decide (inI (a - b))
def mulB (a b : Int) : Bool := decide (inI (a * b))
theorem addB_yes {a b : Int} (h : addB a b = true) : inI (a + b) := of_decide_eq_true h
theorem addB_no {a b : Int} (h : addB a b = false) : ¬ inI (a + b) := of_decide_eq_false h
theorem subB_yes {a b : Int} (h : subB a b = true) : inI (a - b) := of_decide_eq_true h
theorem subB_no {a b : Int} (h : subB a b = false) : ¬ inI (a - b) := of_decide_eq_false h
theorem mulB_yes {a b : Int} (h : mulB a b = true) : mulE a b = 0 := mulE_iff.2 (of_decide_eq_true h)
theorem mulB_no {a b : Int} (h : mulB a b = false) : ¬ mulE a b = 0 := fun e => of_decide_eq_false h (mulE_iff.1 e)
theorem g_add {a b : Int} (ha : inI a) (hb : inI b) : Gives Tryz.prog w0 D 43 #[.int .i64 a, .int .i64 b] (.tuple #[.int .i64 (addV a b), .bool (addB a b)]) := by
 unfold addV addB
 by_cases h : inI (a + b)
 ·rw [if_pos h, decide_eq_true h]
  exact gives_same (fun w => num.radd_ok a b w ha hb h)
 ·rw [if_neg h, decide_eq_false h]
  exact gives_same (fun w => num.radd_over a b w ha hb h)
theorem g_sub {a b : Int} (ha : inI a) (hb : inI b) : Gives Tryz.prog w0 D 72 #[.int .i64 a, .int .i64 b] (.tuple #[.int .i64 (subV a b), .bool (subB a b)]) := by
 unfold subV subB
 by_cases h : inI (a - b)
 ·rw [if_pos h, decide_eq_true h]
  exact gives_same (fun w => num.rsub_ok a b w ha hb h)
 ·rw [if_neg h, decide_eq_false h]
  exact gives_same (fun w => num.rsub_over a b w ha hb h)
theorem g_mul {a b : Int} (ha : inI a) (hb : inI b) : GivesM Tryz.prog w0 D 71 #[.int .i64 a, .int .i64 b] {v : Int // inI (a * b) → v = a * b} (fun x => .tuple #[.int .i64 x.1, .bool (mulB a b)]) (fun x => []) := fun w _ _ =>
 (num.rmul_any a b w ha hb).mono (by
  rintro e w' ⟨⟨v, rfl, _, hv⟩, rfl⟩
  exact ⟨⟨v, hv⟩, rfl, Below.refl _ _, news_nil⟩)
theorem w_rec (r : Rc) (hf : r.fine) (w : World) : Calls Tryz.prog 26 #[.agg (rec.rc r)] w fun e w' => e = .returned (.bool (rec.right r)) ∧ Below w.heap.size w w' := rec.rright_is r.k r.o r.a r.y r.d r.q r.p r.l r.s r.n r.on r.z r.t hf rfl w
def orc (o : Or) : Rc := ⟨1, o.i, o.a, o.y, o.d, o.q, o.p, 0, 0, 0, false, 0, 0⟩
theorem orc_fine {o : Or} (h : o.fine) : (orc o).fine := by
 obtain ⟨h1, h2, h3, h4, h5, h6, _⟩ := h
 exact ⟨rec.in1, h1, h2, h3, h4, h5, h6, rec.in0, rec.in0, rec.in0, rec.in0, rec.in0⟩
theorem rec_new9 (i a y d q p : Int) : rec.right ⟨1, i, a, y, d, q, p, 0, 0, 0, false, 0, 0⟩ = true ↔ (1 ≤ i ∧ i ≤ 1000000000000 ∧ 0 ≤ a ∧ a < 8 ∧ 0 ≤ y ∧ y < 8 ∧ 1 ≤ d ∧ d ≤ 2 ∧ 1 ≤ q ∧ 1 ≤ p) := by
 unfold rec.right rec.may
 simp [rec.rd, rec.nums, rec.mayOrder, rec.mayAcc, rec.mayAsk]
 omega
theorem orc_right {o : Or} (h : order.Rightly o) : rec.right (orc o) = true := (rec_new9 ..).2 (by unfold order.Rightly at h; omega)
theorem orc_rightly {o : Or} (h : rec.right (orc o) = true) (h2 : (1 ≤ o.i ∧ o.i ≤ 1000000000000 ∧ 0 ≤ o.a ∧ o.a < 8 ∧ 0 ≤ o.y ∧ o.y < 8 ∧ 1 ≤ o.d ∧ o.d ≤ 2 ∧ 1 ≤ o.q ∧ 1 ≤ o.p) → order.Rightly o) : order.Rightly o := h2 ((rec_new9 ..).1 h)
theorem w_yes {o : Or} (h : order.Rightly o) : (.bool true : Value) = .bool (order.right o) := by rw [order.right_iff.2 h]
theorem w_no {o : Or} (h : ¬ order.Rightly o) : (.bool false : Value) = .bool (order.right o) := by rw [order.right_no.2 h]
theorem w_yes8 {c : Ce} (h : cell.Rightly c) : (.bool true : Value) = .bool (cell.right c) := by rw [cell.right_iff.2 h]
theorem w_no8 {c : Ce} (h : ¬ cell.Rightly c) : (.bool false : Value) = .bool (cell.right c) := by rw [cell.right_no.2 h]
theorem w_int {a b : Int} (h : a = b) : (.int .i64 a : Value) = .int .i64 b := by rw [h]
theorem nt_q {n : order.Nt} (h : order.noteOk n = true) (ht : n.t = 3) : 1 ≤ n.q := by
 have := (order.noteOk_iff.1 h).2.2
 rw [ht] at this
 exact (order.tell_fill this).1
section
variable {o : Or} {n : order.Nt} (h1 : order.right o = true) (h2 : order.noteOk n = true) (h3 : n.o = o.i)
include h1 h2 h3
theorem tk : ¬ (order.right o = false ∨ order.noteOk n = false ∨ n.o ≠ o.i) := by simp [h1, h2, h3]
theorem take_a (h : o.h = 1 ∧ n.t = 1) : order.take o n = ({ o with h := 2 }, 0) := by unfold order.take; rw [if_neg (tk h1 h2 h3), if_pos h]
theorem take_b (h : (o.h = 1 ∧ n.t = 2) ∨ (o.h = 2 ∧ n.t = 4)) : order.take o n = (order.done o, 0) := by unfold order.take; rw [if_neg (tk h1 h2 h3), if_neg (by omega), if_pos h]
theorem take_c (h : o.h = 2 ∧ n.t = 3 ∧ n.q < o.q - o.f) : order.take o n = ({ o with f := o.f + n.q }, 0) := by unfold order.take; rw [if_neg (tk h1 h2 h3), if_neg (by omega), if_neg (by omega), if_pos ⟨h.1, h.2.1, by omega⟩, if_pos h.2.2]
theorem take_d (h : o.h = 2 ∧ n.t = 3 ∧ n.q = o.q - o.f) : order.take o n = (order.done { o with f := o.f + n.q }, 0) := by unfold order.take; rw [if_neg (tk h1 h2 h3), if_neg (by omega), if_neg (by omega), if_pos ⟨h.1, h.2.1, by omega⟩, if_neg (by omega)]
theorem take_e (h : o.h = 2 ∧ 0 < o.m ∧ n.t = 6) : order.take o n = ({ o with m := 0, r := 0 }, 0) := by unfold order.take; rw [if_neg (tk h1 h2 h3), if_neg (by omega), if_neg (by omega), if_neg (by omega), if_pos h]
theorem take_f (h : o.h = 2 ∧ 0 < o.m ∧ n.t = 5 ∧ n.q = o.m ∧ n.p = o.r ∧ o.f < n.q) : order.take o n = ({ o with q := n.q, p := n.p, m := 0, r := 0 }, 0) := by unfold order.take; rw [if_neg (tk h1 h2 h3), if_neg (by omega), if_neg (by omega), if_neg (by omega), if_neg (by omega), if_pos h]
theorem take_8 (h : ¬ (o.h = 1 ∧ n.t = 1) ∧ ¬ ((o.h = 1 ∧ n.t = 2) ∨ (o.h = 2 ∧ n.t = 4)) ∧ ¬ (o.h = 2 ∧ n.t = 3 ∧ n.q ≤ o.q - o.f) ∧ ¬ (o.h = 2 ∧ 0 < o.m ∧ n.t = 6) ∧ ¬ (o.h = 2 ∧ 0 < o.m ∧ n.t = 5 ∧ n.q = o.m ∧ n.p = o.r ∧ o.f < n.q)) : order.take o n = (o, 8) := by unfold order.take; rw [if_neg (tk h1 h2 h3), if_neg h.1, if_neg h.2.1, if_neg h.2.2.1, if_neg h.2.2.2.1, if_neg h.2.2.2.2]
end
theorem w_ofnote (n : order.Nt)  (w : World) : Calls Tryz.prog 88 #[.agg (order.nc n)] w fun e w' => e = .returned (.agg (rec.rc n.rc)) ∧ Below w.heap.size w w' :=
 calls_by (fn := Tryz.f88) (r := .agg (rec.rc n.rc)) (t := .z) (X :=
∀ g0 : Nat, ∀ g1 : Nat, ∀ g2 : Nat, ((.agg #[.int .i64 6, .int .i64 n.o, .int .i64 0, .int .i64 0, .int .i64 0, .int .i64 n.q, .int .i64 n.p, .int .i64 0, .int .i64 0, .int .i64 0, .bool false, .int .i64 n.z, .int .i64 n.t] : Value) = .agg (rec.rc n.rc))) Tryz.func88 (by kernel_rfl)
 (fun g0 => fun g1 => fun g2 => rfl)
theorem w_oright (o : Or)  (ho : o.fine) (w : World) : Calls Tryz.prog 21 #[.agg (order.oc o)] w fun e w' => e = .returned (.bool (order.right o)) ∧ Below w.heap.size w w' :=
 calls_by (fn := Tryz.f21) (r := .bool (order.right o)) (t := .cs (rec.right (orc o)) (.s (.k (.k .z)) (.k (.s (.k .z) (.k (.s .z (.s (.k (.s (.k (.k (.s (.k (.k (.s (.k (.s .z .z)) (.k .z)))) (.s (.s .z .z) (.s (.k (.k .z)) (.k .z)))))) (.k (.k (.m true (.k .z)))))) (.k (.k (.k (.s (.k .z) (.k (.s .z (.s (.k (.k (.k .z))) (.s (.s .z .z) (.s (.k (.k .z)) (.k .z)))))))))))))))) .z) (X :=
 let k0 := (.bool false : Value) = .bool (order.right o); let k1 := (.bool true : Value) = .bool (order.right o); let k2 := !decide (o.f = o.q); let k3 := decide (o.h = 1); let k4 := decide (o.h = 2); let k5 := decide (o.h = 3); let k6 := rec.right (orc o); let k7 := decide (o.m < 1); ∀ g0 : Nat, Gives Tryz.prog w [] 26 #[.agg #[.int .i64 1, .int .i64 o.i, .int .i64 o.a, .int .i64 o.y, .int .i64 o.d, .int .i64 o.q, .int .i64 o.p, .int .i64 0, .int .i64 0, .int .i64 0, .bool false, .int .i64 0, .int .i64 0]] (.bool k6) ∧ (k6 = true → ((decide (o.f < 0)) = true → k0) ∧ ((decide (o.f < 0)) = false → ((decide (o.f > o.q)) = true → k0) ∧ ((decide (o.f > o.q)) = false → ((decide (o.v < 0)) = true → k0) ∧ ((decide (o.v < 0)) = false → ((decide (o.m = 0)) = true → ((decide (o.r = 0)) = true → (k3 = true → ((decide (o.f = 0)) = true → ((decide (o.v = 0)) = true → k1) ∧ ((decide (o.v = 0)) = false → k0)) ∧ ((decide (o.f = 0)) = false → k0)) ∧ (k3 = false → (k4 = true → (k2 = true → k1) ∧ (k2 = false → k0)) ∧ (k4 = false → (k5 = true → k1) ∧ (k5 = false → k0)))) ∧ ((decide (o.r = 0)) = false → k7 = true ∧ k0)) ∧ ((decide (o.m = 0)) = false → (k7 = true → k0) ∧ (k7 = false → ((decide (o.r < 1)) = true → k0) ∧ ((decide (o.r < 1)) = false → (k3 = true → k0) ∧ (k3 = false → (k4 = true → (k2 = true → k1) ∧ (k2 = false → k0)) ∧ (k4 = false → (k5 = true → k0) ∧ (k5 = false → k0)))))))))) ∧ (k6 = false → k0)) Tryz.func21 (by kernel_rfl)
 (fun g0 => ⟨gives (w_rec (orc o) (orc_fine ho)), fun h1 => ⟨fun h2 => have h2 : o.f < 0 := (by simpa using h2)
(w_no (fun h => by unfold order.Rightly at h; omega)),
 fun h2 => have h2 : ¬ o.f < 0 := (by simpa using h2)
⟨fun h3 => have h3 : o.q < o.f := (by simpa using h3)
(w_no (fun h => by unfold order.Rightly at h; omega)),
 fun h3 => have h3 : ¬ o.q < o.f := (by simpa using h3)
⟨fun h4 => have h4 : o.v < 0 := (by simpa using h4)
(w_no (fun h => by unfold order.Rightly at h; omega)),
 fun h4 => have h4 : ¬ o.v < 0 := (by simpa using h4)
⟨fun h5 => have h5 : o.m = 0 := (by simpa using h5)
⟨fun h6 => have h6 : o.r = 0 := (by simpa using h6)
⟨fun h7 => have h7 : o.h = 1 := (by simpa using h7)
⟨fun h8 => have h8 : o.f = 0 := (by simpa using h8)
⟨fun h9 => have h9 : o.v = 0 := (by simpa using h9)
(w_yes (orc_rightly h1 (by unfold order.Rightly; omega))),
 fun h9 => have h9 : ¬ o.v = 0 := (by simpa using h9)
(w_no (fun h => by unfold order.Rightly at h; omega))⟩,
 fun h8 => have h8 : ¬ o.f = 0 := (by simpa using h8)
(w_no (fun h => by unfold order.Rightly at h; omega))⟩,
 fun h7 => have h7 : ¬ o.h = 1 := (by simpa using h7)
⟨fun h10 => have h10 : o.h = 2 := (by simpa using h10)
⟨fun h11 => have h11 : ¬ o.f = o.q := (by simpa using h11)
(w_yes (orc_rightly h1 (by unfold order.Rightly; omega))),
 fun h11 => have h11 : o.f = o.q := (by simpa using h11)
(w_no (fun h => by unfold order.Rightly at h; omega))⟩,
 fun h10 => have h10 : ¬ o.h = 2 := (by simpa using h10)
⟨fun h12 => have h12 : o.h = 3 := (by simpa using h12)
(w_yes (orc_rightly h1 (by unfold order.Rightly; omega))),
 fun h12 => have h12 : ¬ o.h = 3 := (by simpa using h12)
(w_no (fun h => by unfold order.Rightly at h; omega))⟩⟩⟩,
 fun h6 => have h6 : ¬ o.r = 0 := (by simpa using h6)
⟨by simp only [dq]; omega, (w_no (fun h => by unfold order.Rightly at h; omega))⟩⟩,
 fun h5 => have h5 : ¬ o.m = 0 := (by simpa using h5)
⟨fun h13 => have h13 : o.m < 1 := (by simpa using h13)
(w_no (fun h => by unfold order.Rightly at h; omega)),
 fun h13 => have h13 : ¬ o.m < 1 := (by simpa using h13)
⟨fun h14 => have h14 : o.r < 1 := (by simpa using h14)
(w_no (fun h => by unfold order.Rightly at h; omega)),
 fun h14 => have h14 : ¬ o.r < 1 := (by simpa using h14)
⟨fun h15 => have h15 : o.h = 1 := (by simpa using h15)
(w_no (fun h => by unfold order.Rightly at h; omega)),
 fun h15 => have h15 : ¬ o.h = 1 := (by simpa using h15)
⟨fun h16 => have h16 : o.h = 2 := (by simpa using h16)
⟨fun h17 => have h17 : ¬ o.f = o.q := (by simpa using h17)
(w_yes (orc_rightly h1 (by unfold order.Rightly; omega))),
 fun h17 => have h17 : o.f = o.q := (by simpa using h17)
(w_no (fun h => by unfold order.Rightly at h; omega))⟩,
 fun h16 => have h16 : ¬ o.h = 2 := (by simpa using h16)
⟨fun h18 => have h18 : o.h = 3 := (by simpa using h18)
(w_no (fun h => by unfold order.Rightly at h; omega)),
 fun h18 => have h18 : ¬ o.h = 3 := (by simpa using h18)
(w_no (fun h => by unfold order.Rightly at h; omega))⟩⟩⟩⟩⟩⟩⟩⟩⟩,
 fun h1 => (w_no (fun h => (by have := orc_right h; rw [h1] at this; cases this)))⟩)
theorem w_take (o : Or) (n : order.Nt)  (ho : o.fine) (hn : frame.inR n.z ∧ frame.inR n.t ∧ frame.inR n.o ∧ frame.inR n.q ∧ frame.inR n.p) (w : World) : Calls Tryz.prog 62 #[.agg (order.oc o), .agg (order.nc n)] w fun e w' => e = .returned (.tuple #[.agg (order.oc (order.take o n).1), .int .i64 (order.take o n).2]) ∧ Below w.heap.size w w' :=
 calls_by (fn := Tryz.f62) (r := .tuple #[.agg (order.oc (order.take o n).1), .int .i64 (order.take o n).2]) (t := .cs (order.right o) (.k (.c (.agg (rec.rc n.rc)) (.cs (order.noteOk n) (.k (.s .z (.e (.int .i64 (o.q - o.f)) (.s (.s (.k (.s .z (.m true (.k (.s (.k (.m false (.k (.k (.k .z))))) (.k (.m false (.k (.m false (.k (.k (.k (.m false (.k (.k (.m false (.k (.k (.k (.k (.k .z))))))))))))))))))))) (.k (.m false (.k (.k (.s (.k (.s (.m true (.k (.m false (.k (.k .z))))) (.m true (.k (.s (.k (.s (.e (.int .i64 (o.f + n.q)) (.s .z (.k .z))) (.k (.m true (.k (.k (.k (.m false (.m true (.k (.k (.k (.m false (.k (.k (.k .z)))))))))))))))) (.k (.k (.m true (.k (.k (.k (.s .z (.m true (.k (.k (.k (.s (.k (.s (.k (.s (.k (.s .z .z)) (.k .z))) (.k (.k .z)))) (.k (.k (.k .z)))))))))))))))))))) (.k (.m false (.k (.k (.k (.m false (.k (.k (.m false (.k (.k (.k (.k (.k .z)))))))))))))))))))) (.s (.k (.s .z (.m true (.k (.s (.k (.m false (.k (.k (.k .z))))) (.k (.m false (.k (.m false (.k (.k (.k (.m false (.k (.k (.m false (.k (.k (.k (.k (.k .z))))))))))))))))))))) (.k (.m false (.k (.k (.s (.k (.s (.m true (.k (.m false (.k (.k .z))))) (.m true (.k (.s (.k (.s (.e (.int .i64 (o.f + n.q)) (.s .z (.k .z))) (.k (.m true (.k (.k (.k (.m true (.k (.k (.k (.k (.k (.k .z)))))))))))))) (.k (.k (.m true (.k (.k (.k (.m true (.k (.k (.k (.k (.k (.k .z)))))))))))))))))) (.k (.m false (.k (.k (.k (.m false (.k (.k (.m false (.k (.k (.k (.k (.k .z)))))))))))))))))))))))) (.k .z)))) (.k (.k .z))) (X :=
 let k0 : Array Value := #[.agg (order.oc (order.take o n).1), .int .i64 (order.take o n).2]; let k1 := (.tuple #[.agg #[.int .i64 o.i, .int .i64 o.a, .int .i64 o.y, .int .i64 o.d, .int .i64 o.q, .int .i64 o.p, .int .i64 o.f, .int .i64 3, .int .i64 0, .int .i64 0, .int .i64 o.v, .bool o.g], .int .i64 0] : Value) = .tuple k0; let k2 := (.tuple #[.agg (order.oc o), .int .i64 8] : Value) = .tuple k0; let k3 := decide (o.h = 2); let k4 := (.tuple #[.agg #[.int .i64 o.i, .int .i64 o.a, .int .i64 o.y, .int .i64 o.d, .int .i64 o.q, .int .i64 o.p, .int .i64 (o.f + n.q), .int .i64 o.h, .int .i64 o.m, .int .i64 o.r, .int .i64 o.v, .bool o.g], .int .i64 0] : Value) = .tuple k0; let k5 := (.tuple #[.agg #[.int .i64 o.i, .int .i64 o.a, .int .i64 o.y, .int .i64 o.d, .int .i64 o.q, .int .i64 o.p, .int .i64 (o.f + n.q), .int .i64 3, .int .i64 0, .int .i64 0, .int .i64 o.v, .bool o.g], .int .i64 0] : Value) = .tuple k0; let k6 := (.tuple #[.agg #[.int .i64 o.i, .int .i64 o.a, .int .i64 o.y, .int .i64 o.d, .int .i64 o.q, .int .i64 o.p, .int .i64 o.f, .int .i64 2, .int .i64 o.m, .int .i64 o.r, .int .i64 o.v, .bool o.g], .int .i64 0] : Value) = .tuple k0; let k7 := (.tuple #[.agg (order.oc o), .int .i64 1] : Value) = .tuple k0; let k8 := decide (o.h = 1); let k9 := decide (n.q ≤ (o.q - o.f)); let k10 := decide (n.t = 3); let k11 := decide (n.q < (o.q - o.f)); let k12 := (.int .i64 (IntKind.i64.wrap (o.f + n.q)) : Value); let k13 := decide (n.t = 1); let k14 := decide (n.t = 2); let k15 := decide (n.t = 4); let k16 := decide (n.t = 6); let k17 := decide (n.t = 5); let k18 := order.noteOk n; let k19 := order.right o; ∀ g0 : Nat, ∀ g1 : Nat, ∀ g2 : Nat, Gives Tryz.prog w [] 21 #[.agg (order.oc o)] (.bool k19) ∧ (k19 = true → Gives Tryz.prog w [] 88 #[.agg (order.nc n)] (.agg (rec.rc n.rc)) ∧ Gives Tryz.prog w [] 26 #[.agg (rec.rc n.rc)] (.bool k18) ∧ (k18 = true → ((!decide (n.o = o.i)) = true → k7) ∧ ((!decide (n.o = o.i)) = false → (.int .i64 (IntKind.i64.wrap (o.q - o.f)) : Value) = .int .i64 (o.q - o.f) ∧ ((decide (o.m > 0)) = true → ∀ g3 : Nat, (k8 = true → (k13 = true → k6) ∧ (k13 = false → k8 = true ∧ (k14 = true → k3 = false ∧ k1) ∧ (k14 = false → k3 = false ∧ k3 = false ∧ k3 = false ∧ k3 = false ∧ k2))) ∧ (k8 = false → k8 = false ∧ (k3 = true → (k15 = true → k3 = true ∧ k10 = false ∧ k1) ∧ (k15 = false → k3 = true ∧ (k10 = true → (k9 = true → k12 = .int .i64 (o.f + n.q) ∧ (k11 = true → k4) ∧ (k11 = false → k5)) ∧ (k9 = false → k3 = true ∧ k16 = false ∧ k3 = true ∧ k17 = false ∧ k2)) ∧ (k10 = false → k3 = true ∧ (k16 = true → ((.tuple #[.agg #[.int .i64 o.i, .int .i64 o.a, .int .i64 o.y, .int .i64 o.d, .int .i64 o.q, .int .i64 o.p, .int .i64 o.f, .int .i64 o.h, .int .i64 0, .int .i64 0, .int .i64 o.v, .bool o.g], .int .i64 0] : Value) = .tuple k0)) ∧ (k16 = false → k3 = true ∧ (k17 = true → ((decide (n.q = o.m)) = true → ((decide (n.p = o.r)) = true → ((decide (n.q > o.f)) = true → ((.tuple #[.agg #[.int .i64 o.i, .int .i64 o.a, .int .i64 o.y, .int .i64 o.d, .int .i64 n.q, .int .i64 n.p, .int .i64 o.f, .int .i64 o.h, .int .i64 0, .int .i64 0, .int .i64 o.v, .bool o.g], .int .i64 0] : Value) = .tuple k0)) ∧ ((decide (n.q > o.f)) = false → k2)) ∧ ((decide (n.p = o.r)) = false → k2)) ∧ ((decide (n.q = o.m)) = false → k2)) ∧ (k17 = false → k2))))) ∧ (k3 = false → k3 = false ∧ k3 = false ∧ k3 = false ∧ k2))) ∧ ((decide (o.m > 0)) = false → ∀ g3 : Nat, (k8 = true → (k13 = true → k6) ∧ (k13 = false → k8 = true ∧ (k14 = true → k3 = false ∧ k1) ∧ (k14 = false → k3 = false ∧ k3 = false ∧ k3 = false ∧ k3 = false ∧ k2))) ∧ (k8 = false → k8 = false ∧ (k3 = true → (k15 = true → k3 = true ∧ k10 = false ∧ k1) ∧ (k15 = false → k3 = true ∧ (k10 = true → (k9 = true → k12 = .int .i64 (o.f + n.q) ∧ (k11 = true → k4) ∧ (k11 = false → k5)) ∧ (k9 = false → k3 = true ∧ k3 = true ∧ k2)) ∧ (k10 = false → k3 = true ∧ k3 = true ∧ k2))) ∧ (k3 = false → k3 = false ∧ k3 = false ∧ k3 = false ∧ k2))))) ∧ (k18 = false → k7)) ∧ (k19 = false → k7)) Tryz.func62 (by kernel_rfl)
 (fun g0 => fun g1 => fun g2 => ⟨gives (w_oright o ho), fun h1 => ⟨gives (w_ofnote n), ⟨gives (w_rec n.rc (nt_fine hn)), fun h2 => ⟨fun h3 => have h3 : ¬ n.o = o.i := (by simpa using h3)
(by rw [take_1 (.inr (.inr h3))] <;> rfl),
 fun h3 => have h3 : n.o = o.i := (by simpa using h3)
⟨wrap_is rfl (by have := o_rng ho h1; omega) (by have := o_rng ho h1; omega), ⟨fun h4 => have h4 : 0 < o.m := (by simpa using h4)
 fun g3 => ⟨fun h5 => have h5 : o.h = 1 := (by simpa using h5)
⟨fun h6 => have h6 : n.t = 1 := (by simpa using h6)
(by rw [take_a h1 h2 h3 (by omega)] <;> rfl),
 fun h6 => have h6 : ¬ n.t = 1 := (by simpa using h6)
⟨by simp only [dq]; omega, ⟨fun h7 => have h7 : n.t = 2 := (by simpa using h7)
⟨by simp only [dq]; omega, (by rw [take_b h1 h2 h3 (by omega)] <;> rfl)⟩,
 fun h7 => have h7 : ¬ n.t = 2 := (by simpa using h7)
⟨by simp only [dq]; omega, ⟨by simp only [dq]; omega, ⟨by simp only [dq]; omega, ⟨by simp only [dq]; omega, (by rw [take_8 h1 h2 h3 (by omega)] <;> rfl)⟩⟩⟩⟩⟩⟩⟩,
 fun h5 => have h5 : ¬ o.h = 1 := (by simpa using h5)
⟨by simp only [dq]; omega, ⟨fun h8 => have h8 : o.h = 2 := (by simpa using h8)
⟨fun h9 => have h9 : n.t = 4 := (by simpa using h9)
⟨by simp only [dq]; omega, ⟨by simp only [dq]; omega, (by rw [take_b h1 h2 h3 (by omega)] <;> rfl)⟩⟩,
 fun h9 => have h9 : ¬ n.t = 4 := (by simpa using h9)
⟨by simp only [dq]; omega, ⟨fun h10 => have h10 : n.t = 3 := (by simpa using h10)
⟨fun h11 => have h11 : ¬ (o.q - o.f) < n.q := (by simpa using h11)
⟨wrap_is rfl (by have := o_rng ho h1; have := nt_q h2 h10; omega) (by have := o_rng ho h1; omega), ⟨fun h12 => have h12 : n.q < (o.q - o.f) := (by simpa using h12)
(by rw [take_c h1 h2 h3 (by omega)] <;> rfl),
 fun h12 => have h12 : ¬ n.q < (o.q - o.f) := (by simpa using h12)
(by rw [take_d h1 h2 h3 (by omega)] <;> rfl)⟩⟩,
 fun h11 => have h11 : (o.q - o.f) < n.q := (by simpa using h11)
⟨by simp only [dq]; omega, ⟨by simp only [dq]; omega, ⟨by simp only [dq]; omega, ⟨by simp only [dq]; omega, (by rw [take_8 h1 h2 h3 (by omega)] <;> rfl)⟩⟩⟩⟩⟩,
 fun h10 => have h10 : ¬ n.t = 3 := (by simpa using h10)
⟨by simp only [dq]; omega, ⟨fun h13 => have h13 : n.t = 6 := (by simpa using h13)
(by rw [take_e h1 h2 h3 (by omega)] <;> rfl),
 fun h13 => have h13 : ¬ n.t = 6 := (by simpa using h13)
⟨by simp only [dq]; omega, ⟨fun h14 => have h14 : n.t = 5 := (by simpa using h14)
⟨fun h15 => have h15 : n.q = o.m := (by simpa using h15)
⟨fun h16 => have h16 : n.p = o.r := (by simpa using h16)
⟨fun h17 => have h17 : o.f < n.q := (by simpa using h17)
(by rw [take_f h1 h2 h3 (by omega)] <;> rfl),
 fun h17 => have h17 : ¬ o.f < n.q := (by simpa using h17)
(by rw [take_8 h1 h2 h3 (by omega)] <;> rfl)⟩,
 fun h16 => have h16 : ¬ n.p = o.r := (by simpa using h16)
(by rw [take_8 h1 h2 h3 (by omega)] <;> rfl)⟩,
 fun h15 => have h15 : ¬ n.q = o.m := (by simpa using h15)
(by rw [take_8 h1 h2 h3 (by omega)] <;> rfl)⟩,
 fun h14 => have h14 : ¬ n.t = 5 := (by simpa using h14)
(by rw [take_8 h1 h2 h3 (by omega)] <;> rfl)⟩⟩⟩⟩⟩⟩⟩,
 fun h8 => have h8 : ¬ o.h = 2 := (by simpa using h8)
⟨by simp only [dq]; omega, ⟨by simp only [dq]; omega, ⟨by simp only [dq]; omega, (by rw [take_8 h1 h2 h3 (by omega)] <;> rfl)⟩⟩⟩⟩⟩⟩,
 fun h4 => have h4 : ¬ 0 < o.m := (by simpa using h4)
 fun g3 => ⟨fun h18 => have h18 : o.h = 1 := (by simpa using h18)
⟨fun h19 => have h19 : n.t = 1 := (by simpa using h19)
(by rw [take_a h1 h2 h3 (by omega)] <;> rfl),
 fun h19 => have h19 : ¬ n.t = 1 := (by simpa using h19)
⟨by simp only [dq]; omega, ⟨fun h20 => have h20 : n.t = 2 := (by simpa using h20)
⟨by simp only [dq]; omega, (by rw [take_b h1 h2 h3 (by omega)] <;> rfl)⟩,
 fun h20 => have h20 : ¬ n.t = 2 := (by simpa using h20)
⟨by simp only [dq]; omega, ⟨by simp only [dq]; omega, ⟨by simp only [dq]; omega, ⟨by simp only [dq]; omega, (by rw [take_8 h1 h2 h3 (by omega)] <;> rfl)⟩⟩⟩⟩⟩⟩⟩,
 fun h18 => have h18 : ¬ o.h = 1 := (by simpa using h18)
⟨by simp only [dq]; omega, ⟨fun h21 => have h21 : o.h = 2 := (by simpa using h21)
⟨fun h22 => have h22 : n.t = 4 := (by simpa using h22)
⟨by simp only [dq]; omega, ⟨by simp only [dq]; omega, (by rw [take_b h1 h2 h3 (by omega)] <;> rfl)⟩⟩,
 fun h22 => have h22 : ¬ n.t = 4 := (by simpa using h22)
⟨by simp only [dq]; omega, ⟨fun h23 => have h23 : n.t = 3 := (by simpa using h23)
⟨fun h24 => have h24 : ¬ (o.q - o.f) < n.q := (by simpa using h24)
⟨wrap_is rfl (by have := o_rng ho h1; have := nt_q h2 h23; omega) (by have := o_rng ho h1; omega), ⟨fun h25 => have h25 : n.q < (o.q - o.f) := (by simpa using h25)
(by rw [take_c h1 h2 h3 (by omega)] <;> rfl),
 fun h25 => have h25 : ¬ n.q < (o.q - o.f) := (by simpa using h25)
(by rw [take_d h1 h2 h3 (by omega)] <;> rfl)⟩⟩,
 fun h24 => have h24 : (o.q - o.f) < n.q := (by simpa using h24)
⟨by simp only [dq]; omega, ⟨by simp only [dq]; omega, (by rw [take_8 h1 h2 h3 (by omega)] <;> rfl)⟩⟩⟩,
 fun h23 => have h23 : ¬ n.t = 3 := (by simpa using h23)
⟨by simp only [dq]; omega, ⟨by simp only [dq]; omega, (by rw [take_8 h1 h2 h3 (by omega)] <;> rfl)⟩⟩⟩⟩⟩,
 fun h21 => have h21 : ¬ o.h = 2 := (by simpa using h21)
⟨by simp only [dq]; omega, ⟨by simp only [dq]; omega, ⟨by simp only [dq]; omega, (by rw [take_8 h1 h2 h3 (by omega)] <;> rfl)⟩⟩⟩⟩⟩⟩⟩⟩⟩,
 fun h2 => (by rw [take_1 (.inr (.inl h2))] <;> rfl)⟩⟩,
 fun h1 => (by rw [take_1 (.inl h1)] <;> rfl)⟩)
theorem w_begin (r : Rc)  (hr : r.fine) (w : World) : Calls Tryz.prog 58 #[.agg (rec.rc r)] w fun e w' => e = .returned (.tuple #[.agg (order.oc (order.begin_ r).1), .bool (decide ((order.begin_ r).2 = 0))]) ∧ Below w.heap.size w w' :=
 calls_by (fn := Tryz.f58) (r := .tuple #[.agg (order.oc (order.begin_ r).1), .bool (decide ((order.begin_ r).2 = 0))]) (t := .s (.k .z) (.k (.cs (rec.right r) .z .z))) (X :=
 let k1 : Array Value := #[.agg (order.oc (order.begin_ r).1), .bool (decide ((order.begin_ r).2 = 0))]; let k0 := (.tuple #[.agg #[.int .i64 0, .int .i64 0, .int .i64 0, .int .i64 0, .int .i64 0, .int .i64 0, .int .i64 0, .int .i64 0, .int .i64 0, .int .i64 0, .int .i64 0, .bool false], .bool false] : Value) = .tuple k1; ∀ g0 : Nat, ∀ g1 : Nat, ∀ g2 : Nat, ((!decide (r.k = 1)) = true → k0) ∧ ((!decide (r.k = 1)) = false → Gives Tryz.prog w [] 26 #[.agg (rec.rc r)] (.bool (rec.right r)) ∧ ((rec.right r) = true → ((.tuple #[.agg #[.int .i64 r.o, .int .i64 r.a, .int .i64 r.y, .int .i64 r.d, .int .i64 r.q, .int .i64 r.p, .int .i64 0, .int .i64 1, .int .i64 0, .int .i64 0, .int .i64 0, .bool false], .bool true] : Value) = .tuple k1)) ∧ ((rec.right r) = false → k0))) Tryz.func58 (by kernel_rfl)
 (fun g0 => fun g1 => fun g2 => ⟨fun h1 => have h1 : ¬ r.k = 1 := (by simpa using h1)
(by rw [begin_no (fun h => h1 h.1)] <;> rfl),
 fun h1 => have h1 : r.k = 1 := (by simpa using h1)
⟨gives (w_rec r hr), fun h2 => (by rw [begin_yes ⟨h1, h2⟩] <;> rfl),
 fun h2 => (by rw [begin_no (fun h => by have := h.2; rw [h2] at this; cases this)] <;> rfl)⟩⟩)
theorem w_end (o : Or)  (ho : o.fine) (w : World) : Calls Tryz.prog 28 #[.agg (order.oc o)] w fun e w' => e = .returned (.tuple #[.agg (order.oc (order.stop o).1), .int .i64 (order.stop o).2]) ∧ Below w.heap.size w w' :=
 calls_by (fn := Tryz.f28) (r := .tuple #[.agg (order.oc (order.stop o).1), .int .i64 (order.stop o).2]) (t := .cs (order.right o) (.s (.k .z) (.k (.s .z .z))) .z) (X :=
 let k0 : Array Value := #[.agg (order.oc (order.stop o).1), .int .i64 (order.stop o).2]; let k1 := (.tuple #[.agg (order.oc o), .int .i64 8] : Value) = .tuple k0; let k2 := order.right o; ∀ g0 : Nat, ∀ g1 : Nat, Gives Tryz.prog w [] 21 #[.agg (order.oc o)] (.bool k2) ∧ (k2 = true → (o.g = true → k1) ∧ (o.g = false → ((decide (o.h = 3)) = true → k1) ∧ ((decide (o.h = 3)) = false → ((.tuple #[.agg #[.int .i64 o.i, .int .i64 o.a, .int .i64 o.y, .int .i64 o.d, .int .i64 o.q, .int .i64 o.p, .int .i64 o.f, .int .i64 o.h, .int .i64 o.m, .int .i64 o.r, .int .i64 o.v, .bool true], .int .i64 0] : Value) = .tuple k0)))) ∧ (k2 = false → ((.tuple #[.agg (order.oc o), .int .i64 1] : Value) = .tuple k0))) Tryz.func28 (by kernel_rfl)
 (fun g0 => fun g1 => ⟨gives (w_oright o ho), fun h1 => ⟨fun h2 => (by unfold order.stop; simp [h1, h2]; try rfl),
 fun h2 => ⟨fun h3 => have h3 : o.h = 3 := (by simpa using h3)
(by unfold order.stop; simp [h1, h2, h3]; try rfl),
 fun h3 => have h3 : ¬ o.h = 3 := (by simpa using h3)
(by unfold order.stop; simp [h1, h2, h3]; try rfl)⟩⟩,
 fun h1 => (by unfold order.stop; simp [h1]; try rfl)⟩)
theorem w_change (o : Or) (x z : Int)  (ho : o.fine) (w : World) : Calls Tryz.prog 59 #[.agg (order.oc o), .int .i64 x, .int .i64 z] w fun e w' => e = .returned (.tuple #[.agg (order.oc (order.change o x z).1), .int .i64 (order.change o x z).2]) ∧ Below w.heap.size w w' :=
 calls_by (fn := Tryz.f59) (r := .tuple #[.agg (order.oc (order.change o x z).1), .int .i64 (order.change o x z).2]) (t := .cs (order.right o) (.k (.s (.k (.k .z)) (.k (.s (.k .z) (.k (.s .z (.s (.k (.k .z)) (.k (.s (.k .z) (.k (.s .z (.e (.int .i64 (o.v + 1)) .z)))))))))))) (.k (.k (.k .z)))) (X :=
 let k0 : Array Value := #[.agg (order.oc (order.change o x z).1), .int .i64 (order.change o x z).2]; let k1 := (.tuple #[.agg (order.oc o), .int .i64 1] : Value) = .tuple k0; let k2 := (.tuple #[.agg (order.oc o), .int .i64 8] : Value) = .tuple k0; let k3 := decide (o.v = 9223372036854775807); let k4 := order.right o; ∀ g0 : Nat, ∀ g1 : Nat, Gives Tryz.prog w [] 21 #[.agg (order.oc o)] (.bool k4) ∧ (k4 = true → ((decide (x < 1)) = true → k1) ∧ ((decide (x < 1)) = false → ((decide (z < 1)) = true → k1) ∧ ((decide (z < 1)) = false → (k3 = true → k1) ∧ (k3 = false → ((!decide (o.h = 2)) = true → k2) ∧ ((!decide (o.h = 2)) = false → ((!decide (o.m = 0)) = true → k2) ∧ ((!decide (o.m = 0)) = false → (o.g = true → k2) ∧ (o.g = false → (.int .i64 (IntKind.i64.wrap (o.v + 1)) : Value) = .int .i64 (o.v + 1) ∧ ((.tuple #[.agg #[.int .i64 o.i, .int .i64 o.a, .int .i64 o.y, .int .i64 o.d, .int .i64 o.q, .int .i64 o.p, .int .i64 o.f, .int .i64 o.h, .int .i64 x, .int .i64 z, .int .i64 (o.v + 1), .bool o.g], .int .i64 0] : Value) = .tuple k0)))))))) ∧ (k4 = false → k1)) Tryz.func59 (by kernel_rfl)
 (fun g0 => fun g1 => ⟨gives (w_oright o ho), fun h1 => ⟨fun h2 => have h2 : x < 1 := (by simpa using h2)
(by rw [change_1 (.inr (by omega))] <;> rfl),
 fun h2 => have h2 : ¬ x < 1 := (by simpa using h2)
⟨fun h3 => have h3 : z < 1 := (by simpa using h3)
(by rw [change_1 (.inr (by omega))] <;> rfl),
 fun h3 => have h3 : ¬ z < 1 := (by simpa using h3)
⟨fun h4 => have h4 : o.v = 9223372036854775807 := (by simpa using h4)
(by rw [change_1 (.inr (by omega))] <;> rfl),
 fun h4 => have h4 : ¬ o.v = 9223372036854775807 := (by simpa using h4)
⟨fun h5 => have h5 : ¬ o.h = 2 := (by simpa using h5)
(by rw [change_8 (fun e => by rcases e with e | e; exact absurd e (by rw [h1]; decide); omega) (by omega)] <;> rfl),
 fun h5 => have h5 : o.h = 2 := (by simpa using h5)
⟨fun h6 => have h6 : ¬ o.m = 0 := (by simpa using h6)
(by rw [change_8 (fun e => by rcases e with e | e; exact absurd e (by rw [h1]; decide); omega) (by omega)] <;> rfl),
 fun h6 => have h6 : o.m = 0 := (by simpa using h6)
⟨fun h7 => (by rw [change_8 (fun e => by rcases e with e | e; exact absurd e (by rw [h1]; decide); omega) (.inr (.inr h7))] <;> rfl),
 fun h7 => ⟨wrap_is rfl (by have := ho.2.2.2.2.2.2.2.2.2.2; unfold frame.inR at this; omega) (by have := ho.2.2.2.2.2.2.2.2.2.2; unfold frame.inR at this; omega), (by rw [change_0 (fun e => by rcases e with e | e; exact absurd e (by rw [h1]; decide); omega) (by omega) (by omega) h7] <;> rfl)⟩⟩⟩⟩⟩⟩⟩,
 fun h1 => (by rw [change_1 (.inl h1)] <;> rfl)⟩)
theorem w_open (o : Or)  (ho : o.fine) (w : World) : Calls Tryz.prog 45 #[.agg (order.oc o)] w fun e w' => e = .returned (.int .i64 (open_ o)) ∧ Below w.heap.size w w' :=
 calls_by (fn := Tryz.f45) (r := .int .i64 (open_ o)) (t := .cs (order.right o) (.k (.s .z (.e (.int .i64 (o.q - o.f)) (.s (.e (.int .i64 (o.m - o.f)) .z) .z)))) (.k .z)) (X :=
 let k0 := (.int .i64 0 : Value) = .int .i64 (open_ o); let k1 := order.right o; ∀ g0 : Nat, Gives Tryz.prog w [] 21 #[.agg (order.oc o)] (.bool k1) ∧ (k1 = true → ((decide (o.h = 3)) = true → k0) ∧ ((decide (o.h = 3)) = false → (.int .i64 (IntKind.i64.wrap (o.q - o.f)) : Value) = .int .i64 (o.q - o.f) ∧ ((decide (o.m > o.q)) = true → (.int .i64 (IntKind.i64.wrap (o.m - o.f)) : Value) = .int .i64 (o.m - o.f) ∧ ((.int .i64 (o.m - o.f) : Value) = .int .i64 (open_ o))) ∧ ((decide (o.m > o.q)) = false → ((.int .i64 (o.q - o.f) : Value) = .int .i64 (open_ o))))) ∧ (k1 = false → k0)) Tryz.func45 (by kernel_rfl)
 (fun g0 => ⟨gives (w_oright o ho), fun h1 => ⟨fun h2 => have h2 : o.h = 3 := (by simpa using h2)
(by rw [open_0 (.inr h2)]),
 fun h2 => have h2 : ¬ o.h = 3 := (by simpa using h2)
⟨wrap_is rfl (by have := o_rng ho h1; omega) (by have := o_rng ho h1; omega), ⟨fun h3 => have h3 : o.q < o.m := (by simpa using h3)
⟨wrap_is rfl (by have := o_rng ho h1; omega) (by have := o_rng ho h1; omega), (w_int (by rw [open_1 h1 h2]; omega))⟩,
 fun h3 => have h3 : ¬ o.q < o.m := (by simpa using h3)
(w_int (by rw [open_1 h1 h2]; omega))⟩⟩⟩,
 fun h1 => (by rw [open_0 (.inl h1)])⟩)
theorem w_worth (o : Or)  (ho : o.fine) (w : World) : Calls Tryz.prog 44 #[.agg (order.oc o)] w fun e w' => e = .returned (.tuple #[.int .i64 (worth o).1, .int .i64 (worth o).2]) ∧ Below w.heap.size w w' :=
 calls_by (fn := Tryz.f44) (r := .tuple #[.int .i64 (worth o).1, .int .i64 (worth o).2]) (t := .cs (order.right o) (.s .z (.e (.int .i64 (o.q - o.f)) (.cm ({v : Int // inI ((o.q - o.f) * o.p) → v = (o.q - o.f) * o.p}) (fun x => .tuple #[.int .i64 x.1, .bool ((mulB (o.q - o.f) o.p))]) (fun x => []) (fun x3 => .s (.k (.s (.e (.int .i64 (o.m - o.f)) (.cm ({v : Int // inI ((o.m - o.f) * o.r) → v = (o.m - o.f) * o.r}) (fun x => .tuple #[.int .i64 x.1, .bool ((mulB (o.m - o.f) o.r))]) (fun x => []) (fun x6 => .s (.k (.s .z .z)) (.k .z)))) .z)) (.k .z))))) .z) (X :=
 let k0 : Array Value := #[.int .i64 (worth o).1, .int .i64 (worth o).2]; let k1 := (.tuple #[.int .i64 0, .int .i64 3] : Value) = .tuple k0; let k2 := mulB (o.q - o.f) o.p; let k3 := mulB (o.m - o.f) o.r; let k4 := order.right o; ∀ g0 : Nat, Gives Tryz.prog w [] 21 #[.agg (order.oc o)] (.bool k4) ∧ (k4 = true → ((decide (o.h = 3)) = true → ((.tuple #[.int .i64 0, .int .i64 0] : Value) = .tuple k0)) ∧ ((decide (o.h = 3)) = false → (.int .i64 (IntKind.i64.wrap (o.q - o.f)) : Value) = .int .i64 (o.q - o.f) ∧ GivesM Tryz.prog w [] 71 #[.int .i64 (o.q - o.f), .int .i64 o.p] ({v : Int // inI ((o.q - o.f) * o.p) → v = (o.q - o.f) * o.p}) (fun x => .tuple #[.int .i64 x.1, .bool (k2)]) (fun x => []) ∧ ∀ x3 : {v : Int // inI ((o.q - o.f) * o.p) → v = (o.q - o.f) * o.p}, let k5 := (.tuple #[.int .i64 x3.1, .int .i64 0] : Value) = .tuple k0; (k2 = true → ((decide (o.m > o.f)) = true → (.int .i64 (IntKind.i64.wrap (o.m - o.f)) : Value) = .int .i64 (o.m - o.f) ∧ GivesM Tryz.prog w [] 71 #[.int .i64 (o.m - o.f), .int .i64 o.r] ({v : Int // inI ((o.m - o.f) * o.r) → v = (o.m - o.f) * o.r}) (fun x => .tuple #[.int .i64 x.1, .bool (k3)]) (fun x => []) ∧ ∀ x6 : {v : Int // inI ((o.m - o.f) * o.r) → v = (o.m - o.f) * o.r}, (k3 = true → ((decide (x6.1 > x3.1)) = true → ((.tuple #[.int .i64 x6.1, .int .i64 0] : Value) = .tuple k0)) ∧ ((decide (x6.1 > x3.1)) = false → k5)) ∧ (k3 = false → k1)) ∧ ((decide (o.m > o.f)) = false → k5)) ∧ (k2 = false → k1))) ∧ (k4 = false → ((.tuple #[.int .i64 0, .int .i64 1] : Value) = .tuple k0))) Tryz.func44 (by kernel_rfl)
 (fun g0 => ⟨gives (w_oright o ho), fun h1 => ⟨fun h2 => have h2 : o.h = 3 := (by simpa using h2)
(by rw [worth_b h1 h2]),
 fun h2 => have h2 : ¬ o.h = 3 := (by simpa using h2)
⟨wrap_is rfl (by have := o_rng ho h1; omega) (by have := o_rng ho h1; omega), ⟨g_mul (w_in ho h1).1 ho.2.2.2.2.2.1, fun x3 => ⟨fun h4 => ⟨fun h5 => have h5 : o.f < o.m := (by simpa using h5)
⟨wrap_is rfl (by have := o_rng ho h1; omega) (by have := o_rng ho h1; omega), ⟨g_mul (w_in ho h1).2 ho.2.2.2.2.2.2.2.2.2.1, fun x6 => ⟨fun h7 => ⟨fun h8 => have h8 : x3.1 < x6.1 := (by simpa using h8)
(by have e1 := x3.2 (of_decide_eq_true h4); have e2 := x6.2 (of_decide_eq_true h7); rw [worth_f h1 h2 (mulB_yes h4) h5 (mulB_yes h7), mulV_yes (mulB_yes h4), mulV_yes (mulB_yes h7)]; exact congrArg (fun x => Value.tuple #[.int .i64 x, .int .i64 0]) (by omega)),
 fun h8 => have h8 : ¬ x3.1 < x6.1 := (by simpa using h8)
(by have e1 := x3.2 (of_decide_eq_true h4); have e2 := x6.2 (of_decide_eq_true h7); rw [worth_f h1 h2 (mulB_yes h4) h5 (mulB_yes h7), mulV_yes (mulB_yes h4), mulV_yes (mulB_yes h7)]; exact congrArg (fun x => Value.tuple #[.int .i64 x, .int .i64 0]) (by omega))⟩,
 fun h7 => (by rw [worth_e h1 h2 (mulB_yes h4) h5 (mulB_no h7)])⟩⟩⟩,
 fun h5 => have h5 : ¬ o.f < o.m := (by simpa using h5)
(by have e1 := x3.2 (of_decide_eq_true h4); rw [worth_d h1 h2 (mulB_yes h4) h5, mulV_yes (mulB_yes h4), e1])⟩,
 fun h4 => (by rw [worth_c h1 h2 (mulB_no h4)])⟩⟩⟩⟩,
 fun h1 => (by rw [worth_a h1])⟩)
theorem w_cright (c : Ce)  (hc : c.fine) (w : World) : Calls Tryz.prog 46 #[.agg (cell.cc c)] w fun e w' => e = .returned (.bool (cell.right c)) ∧ Below w.heap.size w w' :=
 calls_by (fn := Tryz.f46) (r := .bool (cell.right c)) (t := let k0 : Value := .tuple #[.int .i64 (subV c.s c.p), .bool (subB c.s c.p)]; .c (.tuple #[.int .i64 (addV c.p c.b), .bool (addB c.p c.b)]) (.s (.c k0 (.s (.k (.k (.k (.k (.s (.k (.s (.k (.s .z .z)) (.k .z))) (.k (.k .z))))))) (.k (.k (.k (.k (.k (.k .z)))))))) (.c k0 (.s (.k (.k (.k (.k (.k .z))))) (.k (.k (.k (.k (.k .z))))))))) (X :=
 let k0 := (.bool false : Value) = .bool (cell.right c); let k1 := subB c.s c.p; let k2 : Value := .tuple #[.int .i64 (subV c.s c.p), .bool k1]; let k3 := addB c.p c.b; ∀ g0 : Nat, Gives Tryz.prog w [] 43 #[.int .i64 c.p, .int .i64 c.b] (.tuple #[.int .i64 (addV c.p c.b), .bool k3]) ∧ (k3 = true → Gives Tryz.prog w [] 72 #[.int .i64 c.s, .int .i64 c.p] k2 ∧ (k1 = true → ((decide (c.b ≥ 0)) = true → ((decide (c.s ≥ 0)) = true → ((decide (c.n ≥ 0)) = true → ((.bool true : Value) = .bool (cell.right c))) ∧ ((decide (c.n ≥ 0)) = false → k0)) ∧ ((decide (c.s ≥ 0)) = false → k0)) ∧ ((decide (c.b ≥ 0)) = false → k0)) ∧ (k1 = false → k0)) ∧ (k3 = false → Gives Tryz.prog w [] 72 #[.int .i64 c.s, .int .i64 c.p] k2 ∧ (k1 = true → k0) ∧ (k1 = false → k0))) Tryz.func46 (by kernel_rfl)
 (fun g0 => ⟨g_add hc.1 hc.2.1, ⟨fun h1 => ⟨g_sub hc.2.2.1 hc.1, ⟨fun h2 => ⟨fun h3 => have h3 : ¬ c.b < 0 := (by simpa using h3)
⟨fun h4 => have h4 : ¬ c.s < 0 := (by simpa using h4)
⟨fun h5 => have h5 : ¬ c.n < 0 := (by simpa using h5)
(w_yes8 (by have := addB_yes h1; have := subB_yes h2; unfold inI at *; unfold cell.Rightly; omega)),
 fun h5 => have h5 : c.n < 0 := (by simpa using h5)
(w_no8 (fun h => by unfold cell.Rightly at h; omega))⟩,
 fun h4 => have h4 : c.s < 0 := (by simpa using h4)
(w_no8 (fun h => by unfold cell.Rightly at h; omega))⟩,
 fun h3 => have h3 : c.b < 0 := (by simpa using h3)
(w_no8 (fun h => by unfold cell.Rightly at h; omega))⟩,
 fun h2 => (w_no8 (fun h => by have := subB_no h2; unfold cell.Rightly at h; unfold inI at this; omega))⟩⟩,
 fun h1 => ⟨g_sub hc.2.2.1 hc.1, ⟨fun h6 => (w_no8 (fun h => by have := addB_no h1; unfold cell.Rightly at h; unfold inI at this; omega)),
 fun h6 => (w_no8 (fun h => by have := addB_no h1; unfold cell.Rightly at h; unfold inI at this; omega))⟩⟩⟩⟩)
theorem w_of (c : Ce)  (hc : cell.Rightly c) (w : World) : Calls Tryz.prog 86 #[.agg (cell.cc c)] w fun e w' => e = .returned (.agg (cell.xc ⟨c.p + c.b, c.s - c.p, c.n⟩)) ∧ Below w.heap.size w w' :=
 calls_by (fn := Tryz.f86) (r := .agg (cell.xc ⟨c.p + c.b, c.s - c.p, c.n⟩)) (t := .e (.int .i64 (c.p + c.b)) (.e (.int .i64 (c.s - c.p)) .z)) (X :=
∀ g0 : Nat, ∀ g1 : Nat, (.int .i64 (IntKind.i64.wrap (c.p + c.b)) : Value) = .int .i64 (c.p + c.b) ∧ (.int .i64 (IntKind.i64.wrap (c.s - c.p)) : Value) = .int .i64 (c.s - c.p) ∧ ((.agg #[.int .i64 (c.p + c.b), .int .i64 (c.s - c.p), .int .i64 c.n] : Value) = .agg (cell.xc ⟨c.p + c.b, c.s - c.p, c.n⟩))) Tryz.func86 (by kernel_rfl)
 (fun g0 => fun g1 => ⟨wrap_is rfl (by unfold cell.Rightly at hc; omega) (by unfold cell.Rightly at hc; omega), ⟨wrap_is rfl (by unfold cell.Rightly at hc; omega) (by unfold cell.Rightly at hc; omega), rfl⟩⟩)
theorem w_lright (l : Ex)  (w : World) : Calls Tryz.prog 15 #[.agg (cell.xc l)] w fun e w' => e = .returned (.bool (limit.right l)) ∧ Below w.heap.size w w' :=
 calls_by (fn := Tryz.f15) (r := .bool (limit.right l)) (t := .s (.k (.s (.k (.s .z .z)) (.k .z))) (.k (.k .z))) (X :=
 let k0 := (.bool false : Value) = .bool (limit.right l); ∀ g0 : Nat, ((decide (l.l ≥ 0)) = true → ((decide (l.s ≥ 0)) = true → ((decide (l.n ≥ 0)) = true → ((.bool true : Value) = .bool (limit.right l))) ∧ ((decide (l.n ≥ 0)) = false → k0)) ∧ ((decide (l.s ≥ 0)) = false → k0)) ∧ ((decide (l.l ≥ 0)) = false → k0)) Tryz.func15 (by kernel_rfl)
 (fun g0 => ⟨fun h1 => have h1 : ¬ l.l < 0 := (by simpa using h1)
⟨fun h2 => have h2 : ¬ l.s < 0 := (by simpa using h2)
⟨fun h3 => have h3 : ¬ l.n < 0 := (by simpa using h3)
(vt (by omega)),
 fun h3 => have h3 : l.n < 0 := (by simpa using h3)
(vf (by omega))⟩,
 fun h2 => have h2 : l.s < 0 := (by simpa using h2)
(vf (by omega))⟩,
 fun h1 => have h1 : l.l < 0 := (by simpa using h1)
(vf (by omega))⟩)
theorem w_cap (a b c : Int)  (w : World) : Calls Tryz.prog 87 #[.int .i64 a, .int .i64 b, .int .i64 c] w fun e w' => e = .returned (.bool (limit.cap a b c)) ∧ Below w.heap.size w w' :=
 calls_by (fn := Tryz.f87) (r := .bool (limit.cap a b c)) (t := .s (.k (.s .z .z)) (.k .z)) (X :=
 let k0 := (.bool false : Value) = .bool (limit.cap a b c); ((decide (b > a)) = true → ((decide (b > c)) = true → ((.bool true : Value) = .bool (limit.cap a b c))) ∧ ((decide (b > c)) = false → k0)) ∧ ((decide (b > a)) = false → k0)) Tryz.func87 (by kernel_rfl)
 (⟨fun h1 => have h1 : a < b := (by simpa using h1)
⟨fun h2 => have h2 : c < b := (by simpa using h2)
(vt (by omega)),
 fun h2 => have h2 : ¬ c < b := (by simpa using h2)
(vf (by omega))⟩,
 fun h1 => have h1 : ¬ a < b := (by simpa using h1)
(vf (by omega))⟩)
theorem w_against (x y l : Ex)  (w : World) : Calls Tryz.prog 85 #[.agg (cell.xc x), .agg (cell.xc y), .agg (cell.xc l)] w fun e w' => e = .returned (.bool (limit.against x y l)) ∧ Below w.heap.size w w' :=
 calls_by (fn := Tryz.f85) (r := .bool (limit.against x y l)) (t := .cs (limit.cap x.l y.l l.l) (.k (.k .z)) (.k (.cs (limit.cap x.s y.s l.s) (.k .z) (.k (.cs (limit.cap x.n y.n l.n) .z .z))))) (X :=
 let k0 := (.bool true : Value) = .bool (limit.against x y l); let k1 := limit.cap x.l y.l l.l; let k2 := limit.cap x.s y.s l.s; let k3 := limit.cap x.n y.n l.n; ∀ g0 : Nat, ∀ g1 : Nat, ∀ g2 : Nat, Gives Tryz.prog w [] 87 #[.int .i64 x.l, .int .i64 y.l, .int .i64 l.l] (.bool k1) ∧ (k1 = true → k0) ∧ (k1 = false → Gives Tryz.prog w [] 87 #[.int .i64 x.s, .int .i64 y.s, .int .i64 l.s] (.bool k2) ∧ (k2 = true → k0) ∧ (k2 = false → Gives Tryz.prog w [] 87 #[.int .i64 x.n, .int .i64 y.n, .int .i64 l.n] (.bool k3) ∧ (k3 = true → k0) ∧ (k3 = false → ((.bool false : Value) = .bool (limit.against x y l)))))) Tryz.func85 (by kernel_rfl)
 (fun g0 => fun g1 => fun g2 => ⟨gives (w_cap x.l y.l l.l), fun h1 => (by unfold limit.against; simp [h1]),
 fun h1 => ⟨gives (w_cap x.s y.s l.s), fun h2 => (by unfold limit.against; simp [h1, h2]),
 fun h2 => ⟨gives (w_cap x.n y.n l.n), fun h3 => (by unfold limit.against; simp [h1, h2, h3]),
 fun h3 => (by unfold limit.against; simp [h1, h2, h3])⟩⟩⟩)
theorem g_oright {o : Or} (hf : o.fine) : Gives Tryz.prog w0 D 21 #[.agg (order.oc o)] (.bool (order.right o)) := gives (w_oright o hf)
theorem g_worth {o : Or} (hf : o.fine) : Gives Tryz.prog w0 D 44 #[.agg (order.oc o)] (.tuple #[.int .i64 (worth o).1, .int .i64 (worth o).2]) := gives (w_worth o hf)
theorem g_open {o : Or} (hf : o.fine) : Gives Tryz.prog w0 D 45 #[.agg (order.oc o)] (.int .i64 (open_ o)) := gives (w_open o hf)
theorem g_cright {c : Ce} (hf : c.fine) : Gives Tryz.prog w0 D 46 #[.agg (cell.cc c)] (.bool (cell.right c)) := gives (w_cright c hf)
theorem g_of {c : Ce} (h : cell.right c = true) : Gives Tryz.prog w0 D 86 #[.agg (cell.cc c)] (.agg (cell.xc ⟨c.p + c.b, c.s - c.p, c.n⟩)) := gives (w_of c (cell.right_iff.1 h))
theorem g_lright {l : Ex} : Gives Tryz.prog w0 D 15 #[.agg (cell.xc l)] (.bool (limit.right l)) := gives (w_lright l)
theorem g_against {a b c : Ex} : Gives Tryz.prog w0 D 85 #[.agg (cell.xc a), .agg (cell.xc b), .agg (cell.xc c)] (.bool (limit.against a b c)) := gives (w_against a b c)
theorem g_cap {a b c : Int} : Gives Tryz.prog w0 D 87 #[.int .i64 a, .int .i64 b, .int .i64 c] (.bool (limit.cap a b c)) := gives (w_cap a b c)
theorem g_whole {A : Option Addr} {n c : Nat} {xs : List Ce} (h : ∀ w, Below w0.heap.size w0 w → All D w → Elems rdCell 4 w (Lt w.heap.size) A xs) (hn : xs.length = n) (hm : n ≤ 140737488355328) : Gives Tryz.prog w0 D 20 #[.slice A n c] (.tuple #[.int .i64 (limit.whole xs).1, .bool (decide ((limit.whole xs).2 = 0))]) :=
 fun w hw ha => (limit.rwhole_is A n c w.heap.size xs w (h w hw ha) hn hm rfl rfl).mono (by rintro e w' ⟨rfl, rfl⟩; exact ⟨rfl, Below.refl _ _⟩)
end Go.Proofs.YtbeimapldejgmaaGreat.book
