/-
  Words of my own: append of frames, of bytes, onto a row of the call's own, in a walk.
-/
import Derived.Test.YtegbaidnkniccaaAwake05
namespace Go.Proofs.Ytegbaidnkniccaa.scan
open Go.RowKit Go.Proofs.Ytegbaidnkniccaa Go.Proofs.Ytegbaidnkniccaa.frame
set_option linter.unusedVariables false

theorem wpList_append_frs {w : World} {ops : Array Oper} {rest : List Oper} {o : Oper} {a : Act} {Q : Exit → Act → World → Prop} (hgd : o.guard = none) (s x : Operand)
    (ho : o.op = .call { callee := .builtin .append, args := #[s, x], argTypes := #[22, 22] })
    (base : Nat) {A : Option Addr} {n c : Nat} {xs : List Fr} (hs : a.eval s = .slice A n c) (hown : OwnFrs w base A n c xs)
    {B : Nat} {A2 : Option Addr} {m c2 : Nat} {ys : List Fr} (hx : a.eval x = .slice A2 m c2) (hr : Frs w B A2 ys) (hm : ys.length = m)
    (h63 : n + m ≤ 100000) (hbase : base ≤ w.heap.size)
    (h : ∀ A' c' w', OwnFrs w' base A' (n + m) c' (xs ++ ys) → Below base w w' → wpList Try.prog ops Q rest (a.put o.dst (.slice A' (n + m) c')) w') :
    wpList Try.prog ops Q (o :: rest) a w := by
  obtain ⟨css, he, hc⟩ := Elems.each hr
  have hinfo : (Try.prog.info? 28).map (fun i => (i.zero, i.size, i.bytes)) = some (some (.agg #[.int .i64 0, .int .i64 0, .int .i64 0, .int .i64 0, .int .i64 0, .int .i64 0, .int .i64 0, .int .i64 0, .int .i64 0]), 9, 72) := by kernel_rfl
  refine wpList_append_elems hgd s x _ ho keeps_frame leaf_frame (by decide) base 28 _ 72 Try.underlying22 hinfo rfl hs hown hx (each_frame he)
    (fun h0 => by obtain ⟨b, off, e1, _, e2⟩ := hc (by rw [hm]; exact h0); exact ⟨b, off, e1, e2⟩) hm (fun _ h => h) (fun _ h => False.elim h) (by unfold maxLen; omega) (by omega) hbase ?_
  intro A' c' w' h1 h2 _
  exact h A' c' w' h1 ((Below.refl base w).grown h2 hbase (fun g hg => (hown.block g hg).1))
theorem wpList_append_bytes {w : World} {ops : Array Oper} {rest : List Oper} {o : Oper} {a : Act} {Q : Exit → Act → World → Prop} (hgd : o.guard = none) (s x : Operand)
    (ho : o.op = .call { callee := .builtin .append, args := #[s, x], argTypes := #[23, 23] })
    (base : Nat) {A : Option Addr} {n c : Nat} {xs : List Nat} (hs : a.eval s = .slice A n c) (hown : OwnBys w base 5 A n c xs)
    {B : Nat} {A2 : Option Addr} {m c2 : Nat} {ys : List Nat} (hx : a.eval x = .slice A2 m c2) (hr : Bys w B A2 ys) (hm : ys.length = m)
    (h63 : n + m ≤ 100000) (hbase : base ≤ w.heap.size)
    (h : ∀ A' c' w', OwnBys w' base 5 A' (n + m) c' (xs ++ ys) → Below base w w' → wpList Try.prog ops Q rest (a.put o.dst (.slice A' (n + m) c')) w') :
    wpList Try.prog ops Q (o :: rest) a w := by
  have hinfo : (Try.prog.info? 5).map (fun i => (i.zero, i.size, i.bytes)) = some (some (.int .u8 0), 1, 1) := by kernel_rfl
  refine wpList_append_bys hgd s x _ ho base 5 Try.underlying23 hinfo hs hown hx hr hm (by omega) hbase ?_
  intro A' c' w' h1 h2 _
  exact h A' c' w' h1 ((Below.refl base w).grown h2 hbase (fun g hg => (OwnInts.block hown g hg).1))
theorem row_last {l : List Fr} {j : Nat} {f : Fr} (hj : l.length = j + 1) (h : l[j]? = some f) {n e : Int} (hr : row l n e = true) : f.l = n + j ∧ f.e = last l e ∧ 1 ≤ f.l ∧ f.l ≤ 1000000000 := by
  induction l generalizing j n e with
  | nil => simp at hj
  | cons g l ih =>
    obtain ⟨h1, h2, h3, h4⟩ := (row_cons _ _ _ _).1 hr
    cases j with
    | zero =>
      have : l = [] := List.eq_nil_of_length_eq_zero (by simpa using hj)
      subst this
      simp at h; subst h
      have := right_fit h1
      exact ⟨by omega, rfl, this.2.2.1, this.2.2.2.1⟩
    | succ j =>
      obtain ⟨k1, k2, k3⟩ := ih (j := j) (by simpa using hj) (by simpa using h) h4
      exact ⟨by omega, k2, k3⟩
end Go.Proofs.Ytegbaidnkniccaa.scan
