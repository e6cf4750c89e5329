/-
  Words of my own, over no dump: one more element is appended to a row of the call's own.
-/
import Derived.Test.YtiebaiehoebhfaaElems
namespace Go.Proofs.Ytiebaiehoebhfaa
open Go.RowKit
set_option linter.unusedVariables false

theorem wpList_push {P : Program} {W : World} {ops : Array Oper} {rest : List Oper} {o : Oper} {a : Act} {Q : Exit → Act → World → Prop} (hgd : o.guard = none) (s x : Operand) (t : TypeId)
    (ho : o.op = .call { callee := .builtin .append, args := #[s, x], argTypes := #[t, t] })
    {α : Type} {R : Rd α} (hR : Keeps R) (hLf : Leaf R) {size : Nat} (hsz0 : 0 < size) (base : Nat) (S : Nat → Prop) (e : TypeId) (z : Value) (bytes : Nat) (ht : P.underlying t = some (.slice e))
    (hinfo : (P.info? e).map (fun i => (i.zero, i.size, i.bytes)) = some (some z, size, bytes)) (hzs : z.cells.size = size) {cs : Array Value} {T : TypeId}
    {A : Option Addr} {m c : Nat} {acc : List α} {f : α} (hs : a.eval s = .slice A m c) (hx : a.eval x = .slice (some ⟨W.heap.size, 0, none⟩) 1 1)
    (hown : OwnElems R size W base e S A m c acc) (hf : R W S cs.toList f) (hcs : cs.toList.length = size) (hL : ∀ b, S b → b < base) (hb : base ≤ W.heap.size) (h63 : m + 1 ≤ maxLen) (hbytes : (m + 1) * bytes ≤ 140737488355328)
    (h : ∀ A' c' w', OwnElems R size w' base e S A' (m + 1) c' (acc ++ [f]) → Below base W w' → wpList P ops Q rest (a.put o.dst (.slice A' (m + 1) c')) w') :
    wpList P ops Q (o :: rest) a (W.alloc (.cells cs T)) := by
  have hal : Alike S W (W.alloc (.cells cs T)) := fun b o' hb' => World.cell?_alloc_lt W _ _ (Nat.lt_of_lt_of_le (hL b hb') hb)
  refine wpList_append_elems hgd s x t ho hR hLf hsz0 base e z bytes ht hinfo hzs hs (hown.alloc hR (fun b hb' => Nat.lt_of_lt_of_le (hL b hb') hb) _) hx (each_one hcs (hR _ _ _ _ _ _ hf hal (fun _ h => h))) (cells_new rfl 1) rfl (fun _ h => h) ?_ h63 hbytes (by simp; omega) ?_
  · intro b hb'
    have h1 := hL b hb'
    refine ⟨by simp; omega, fun e => ?_⟩
    have := (hown.block b e.symm).1
    omega
  · intro A' c' w' h1 h2 _
    exact h A' c' w' h1 (((Below.refl base W).alloc hb _).grown h2 (by simp; omega) (fun g hg => (hown.block g hg).1))

end Go.Proofs.Ytiebaiehoebhfaa
