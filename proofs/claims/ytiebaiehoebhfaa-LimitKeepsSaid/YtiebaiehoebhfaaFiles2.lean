/-
  Words of my own, over no dump: one more element is appended to a row of the call's own, behind another new block.
-/
import Derived.Test.YtiebaiehoebhfaaFiles
namespace Go.Proofs.Ytiebaiehoebhfaa
open Go.RowKit
set_option linter.unusedVariables false

/-- the same, where the number of the new block is spelled otherwise. -/
theorem wpList_push_at {P : Program} {W : World} {ops : Array Oper} {rest : List Oper} {o : Oper} {a : Act} {Q : Exit → Act → World → Prop} (hgd : o.guard = none) (s x : Operand) (t : TypeId)
    (ho : o.op = .call { callee := .builtin .append, args := #[s, x], argTypes := #[t, t] })
    {α : Type} {R : Rd α} (hR : Keeps R) (hLf : Leaf R) {size : Nat} (hsz0 : 0 < size) (base : Nat) (S : Nat → Prop) (e : TypeId) (z : Value) (bytes : Nat) (ht : P.underlying t = some (.slice e))
    (hinfo : (P.info? e).map (fun i => (i.zero, i.size, i.bytes)) = some (some z, size, bytes)) (hzs : z.cells.size = size) {cs : Array Value} {T : TypeId}
    {A : Option Addr} {m c : Nat} {acc : List α} {f : α} (hs : a.eval s = .slice A m c) {g : Nat} (hx : a.eval x = .slice (some ⟨g, 0, none⟩) 1 1) (hg : g = W.heap.size)
    (hown : OwnElems R size W base e S A m c acc) (hf : R W S cs.toList f) (hcs : cs.toList.length = size) (hL : ∀ b, S b → b < base) (hb : base ≤ W.heap.size) (h63 : m + 1 ≤ maxLen) (hbytes : (m + 1) * bytes ≤ 140737488355328)
    (h : ∀ A' c' w', OwnElems R size w' base e S A' (m + 1) c' (acc ++ [f]) → Below base W w' → wpList P ops Q rest (a.put o.dst (.slice A' (m + 1) c')) w') :
    wpList P ops Q (o :: rest) a (W.alloc (.cells cs T)) := by
  subst hg
  exact wpList_push hgd s x t ho hR hLf hsz0 base S e z bytes ht hinfo hzs hs hx hown hf hcs hL hb h63 hbytes h

end Go.Proofs.Ytiebaiehoebhfaa
