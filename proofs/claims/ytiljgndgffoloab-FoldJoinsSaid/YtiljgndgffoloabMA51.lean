/-
  FoldG
-/
import Derived.Test.YtiljgndgffoloabMA50
import Derived.Test.YtiljgndgffoloabMA45
import Derived.Test.YtiljgndgffoloabMA04
namespace Go.Proofs.Ytiljgndgffoloab.book
open Go.RowKit Go.Proofs.Ytiljgndgffoloab
open Go.Proofs.Ytiljgndgffoloab.order (Or open_ worth oz)
open Go.Proofs.Ytiljgndgffoloab.cell (Ce Ex)
open Go.Proofs.Ytiljgndgffoloab.rec (Rc)
set_option linter.unusedVariables false
section
variable {w0 : World} {D : List Fact} {v u : Sv} {s t : St} {l : List Rc} {A : Option Addr} {c : Nat}
theorem i_fold {S : Nat → Prop} {W : World} (hd : Fixed w0 D S W) (hs : ∀ w, Below w0.heap.size w0 w → All D w → InS w S v s) (hx : ∀ w, Below w0.heap.size w0 w → All D w → Elems rdRec 13 w (Lt w.heap.size) A l) (hm : l.length ≤ 1000000) :
    GivesM Try.prog w0 D 7 #[.agg (stc v s), .slice A l.length c] (Dat (fun w S v => InS w S v (foldV s l).1) S W) (fun x => .tuple #[.agg (stc x.1.2.2 (foldV s l).1), .int .i64 ((foldV s l).2.1 : Int), .int .i64 (foldV s l).2.2]) (fun x => [poolF x.1.1 x.1.2.1]) :=
  gives_dat (R := fun w S v => InS w S v (foldV s l).1) (r := fun b => .tuple #[.agg (stc b (foldV s l).1), .int .i64 ((foldV s l).2.1 : Int), .int .i64 (foldV s l).2.2]) hd (fun w hw ha => lfold v s A c l S w (hs w hw ha) (hd w hw ha).2 (hx w hw ha) hm)
theorem i_expos (hs : ∀ w, Below w0.heap.size w0 w → All D w → InS w (Lt w.heap.size) v s) : GivesM Try.prog w0 D 13 #[.agg (stc v s)] (Option Addr × Nat) (fun x => .slice x.1 (exposV s).length x.2) (fun x => [ownF rdExpo 3 43 x.1 (exposV s).length x.2 (exposV s)]) := fun w hw ha => lexpos v s w (hs w hw ha)
theorem i_cov (hs : ∀ w, Below w0.heap.size w0 w → All D w → InS w (Lt w.heap.size) v s) (ht : ∀ w, Below w0.heap.size w0 w → All D w → InS w (Lt w.heap.size) u t) : Gives Try.prog w0 D 10 #[.agg (stc v s), .agg (stc u t)] (.bool (coversV s t)) := fun w hw ha => lcovers v u s t w (hs w hw ha) (ht w hw ha)
end
/-- a row that stands in a block as it was laid. -/
theorem elems_block {w : World} {g : Nat} {cs : Array Value} {T : TypeId} {xs : List Rc} (h : w.heap[g]? = some (.cells cs T (0, 0))) (hc : cs.toList = xs.flatMap (fun x => (rec.rc x).toList)) (hf : ∀ x ∈ xs, x.fine) : Elems rdRec 13 w (Lt w.heap.size) (some ⟨g, 0, none⟩) xs := fun _ => by
  refine ⟨g, 0, rfl, (Array.getElem?_eq_some_iff.1 h).1, fun j x hx => ⟨(rec.rc x).toList, rfl, fun i c hic => ?_, rfl, hf x (List.mem_of_getElem? hx)⟩⟩
  have hi : i < 13 := by
    have := (List.getElem?_eq_some_iff.1 hic).1
    simpa [rec.rc] using this
  refine (block_cell h (0 + j * 13 + i) c ?_).1
  rw [← Array.getElem?_toList, hc, Nat.zero_add]
  clear hc h hf
  rename_i h0
  clear h0
  induction xs generalizing j with
  | nil => simp at hx
  | cons y ys ih =>
    cases j with
    | zero =>
      simp only [List.getElem?_cons_zero, Option.some.injEq] at hx
      subst hx
      rw [List.flatMap_cons, List.getElem?_append_left (by simp [rec.rc]; omega), Nat.zero_mul, Nat.zero_add]
      exact hic
    | succ j =>
      rw [List.flatMap_cons, List.getElem?_append_right (by simp [rec.rc]; omega)]
      have e : (j + 1) * 13 + i - (rec.rc y).toList.length = j * 13 + i := by simp [rec.rc]; omega
      rw [e]
      exact ih j (by simpa using hx)
/-- parts of a list: their lengths as the list's. -/
theorem cut_to {P : Program} {w0 : World} {D : List Fact} {α : Type} {t e size bytes : Nat} {z : Value} (ht : P.underlying t = some (.slice e)) (hinfo : (P.info? e).map (fun i => (i.zero, i.size, i.bytes)) = some (some z, size, bytes)) {A : Option Addr} {c : Nat} (xs : List α) (k : Nat) (hk : k ≤ xs.length) (hc : xs.length ≤ c) :
    Yields0 P w0 D (Instr.sliceAt t (.slice A xs.length c) none (some (.int .i64 (k : Int))) none) (.slice A (xs.take k).length c) := fun w _ _ => by
  rw [List.length_take, Nat.min_eq_left hk]
  exact slice_upto ht hinfo (Nat.le_trans hk hc) w
theorem cut_from {P : Program} {w0 : World} {D : List Fact} {α : Type} {t e size bytes : Nat} {z : Value} (ht : P.underlying t = some (.slice e)) (hinfo : (P.info? e).map (fun i => (i.zero, i.size, i.bytes)) = some (some z, size, bytes)) {A : Option Addr} {c : Nat} (xs : List α) (k : Nat) (hk : k ≤ xs.length) :
    Yields0 P w0 D (Instr.sliceAt t (.slice A xs.length c) (some (.int .i64 (k : Int))) none none) (.slice (cutAt A c k size) (xs.drop k).length (c - k)) := fun w _ _ => by
  rw [List.length_drop]
  exact slice_from ht hinfo hk w
/-- the remainder of numbers from 0 on. -/
theorem rem_is {P : Program} {w0 : World} {D : List Fact} {T : TypeId} {a b : Nat} {x y : Int} (hx : x = (a : Int)) (hy : y = (b : Int)) (h1 : 0 < b) (h2 : b ≤ 1000000) (ox oy : Operand) :
    Yields0 P w0 D (do eqGuard .rem T ox oy (.int .i64 x) (.int .i64 y); Go.binOp .rem T (.int .i64 x) (.int .i64 y)) (.int .i64 ((a % b : Nat) : Int)) := fun w _ _ => by
  subst hx hy
  have hb : ¬ (b : Int) = 0 := by omega
  have e : Int.tmod (a : Int) (b : Int) = ((a % b : Nat) : Int) := by rw [Int.ofNat_tmod]
  have e1 : eqGuard .rem T ox oy (.int .i64 (a : Int)) (.int .i64 (b : Int)) = pure () := rfl
  have e2 : Go.binOp .rem T (.int .i64 (a : Int)) (.int .i64 (b : Int)) = Op.intDiv .rem .i64 (a : Int) (b : Int) := by simp [Go.binOp]
  rw [e1, Sem.run_bind, Sem.run_pure, Result.andThen_ok, e2]
  unfold Op.intDiv
  rw [if_neg hb]
  simp only [e]
  rfl
end Go.Proofs.Ytiljgndgffoloab.book
