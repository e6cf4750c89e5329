/-
  BookImpl, BookIg
-/
import Derived.Test.YtiljgndgffoloabMA44
import Derived.Test.YtiljgndgffoloabMA46
import Derived.Test.YtiljgndgffoloabMA47
section
namespace Go.Proofs.Ytiljgndgffoloab.book
open Go.RowKit Go.Proofs.Ytiljgndgffoloab
open Go.Proofs.Ytiljgndgffoloab.order (Or open_ worth)
open Go.Proofs.Ytiljgndgffoloab.cell (Ce Ex)
open Go.Proofs.Ytiljgndgffoloab.rec (Rc)
set_option linter.unusedVariables false
set_option linter.unusedSimpArgs false
set_option maxRecDepth 20000

open Go.Proofs.Ytiljgndgffoloab.order (oz)
theorem bright (v : Sv) (s : St) (w : World) (h : InS w (Lt w.heap.size) v s) : Calls Try.prog 11 #[.agg (stc v s)] w fun e w' => e = .returned (.bool (right s)) ∧ Below w.heap.size w w' := lright v s w h
theorem bnew (a y : Int) (l : Ex) (c : Int) (w : World) (_ha : frame.inR a) (_hy : frame.inR y) (hl : l.fine) (hc : frame.inR c) : Calls Try.prog 12 #[.int .i64 a, .int .i64 y, .agg (cell.xc l), .int .i64 c] w fun e w' => ∃ x : Sv, e = .returned (.tuple #[.agg (stc x (newV a y l c).1), .int .i64 (newV a y l c).2]) ∧ Below w.heap.size w w' ∧ InS w' (fun k => w.heap.size ≤ k ∧ k < w'.heap.size) x (newV a y l c).1 := lnew a y l c w hl hc
theorem bmay (v : Sv) (s : St) (r : Rc)  (w : World) (h : InS w (Lt w.heap.size) v s) (hrf : r.fine) : Calls Try.prog 9 #[.agg (stc v s), .agg (rec.rc r)] w fun e w' => e = .returned (.int .i64 (do_ s r).2) ∧ Below w.heap.size w w' :=
  calls_by (fn := Try.f9) (r := .int .i64 (do_ s r).2) (t := .cm (Dat (fun w S v => InS w S v (do_ s r).1) (Lt w.heap.size) w) (fun x => .tuple #[.agg (stc x.1.2.2 ((do_ s r).1)), .int .i64 ((do_ s r).2)]) (fun x => [poolF x.1.1 x.1.2.1]) (fun x1 => .z)) (X :=
∀ g0 : Nat, ∀ g1 : Nat, GivesM Try.prog w [] 14 #[.agg (stc v s), .agg (rec.rc r)] (Dat (fun w S v => InS w S v (do_ s r).1) (Lt w.heap.size) w) (fun x => .tuple #[.agg (stc x.1.2.2 ((do_ s r).1)), .int .i64 ((do_ s r).2)]) (fun x => [poolF x.1.1 x.1.2.1]) ∧ ∀ x1 : Dat (fun w S v => InS w S v (do_ s r).1) (Lt w.heap.size) w, ∀ g2 : Nat, (.int .i64 ((do_ s r).2) : Value) = .int .i64 (do_ s r).2) Try.func9 (by kernel_rfl)
  (fun g0 => fun g1 => ⟨(gives_dat (R := fun w S v => InS w S v (do_ s r).1) (r := fun b => .tuple #[.agg (stc b (do_ s r).1), .int .i64 (do_ s r).2]) (fixed_low (fun k hk => hk)) (fun w2 hw ha => bdo v s r (Lt w.heap.size) w2 (h.below hw) (fun k hk => Nat.lt_of_lt_of_le hk hw.size) hrf)), fun x1 => fun g2 => rfl⟩)

end Go.Proofs.Ytiljgndgffoloab.book
end
section
namespace Go.Proofs.Ytiljgndgffoloab.book
open Go.RowKit Go.Proofs.Ytiljgndgffoloab
open Go.Proofs.Ytiljgndgffoloab.order (Or open_ worth oz)
open Go.Proofs.Ytiljgndgffoloab.cell (Ce Ex)
open Go.Proofs.Ytiljgndgffoloab.rec (Rc)
set_option linter.unusedVariables false
section
variable {w0 : World} {D : List Fact} {v : Sv} {s : St} {r : Rc}
theorem i_right (hs : ∀ w, Below w0.heap.size w0 w → All D w → InS w (Lt w.heap.size) v s) : Gives Try.prog w0 D 11 #[.agg (stc v s)] (.bool (right s)) := fun w hw ha => bright v s w (hs w hw ha)
theorem i_may (hs : ∀ w, Below w0.heap.size w0 w → All D w → InS w (Lt w.heap.size) v s) (hrf : r.fine) : Gives Try.prog w0 D 9 #[.agg (stc v s), .agg (rec.rc r)] (.int .i64 (do_ s r).2) := fun w hw ha => bmay v s r w (hs w hw ha) hrf
theorem i_do {S : Nat → Prop} {W : World} (hd : Fixed w0 D S W) (hs : ∀ w, Below w0.heap.size w0 w → All D w → InS w S v s) (hrf : r.fine) :
    GivesM Try.prog w0 D 14 #[.agg (stc v s), .agg (rec.rc r)] (Dat (fun w S v => InS w S v (do_ s r).1) S W) (fun x => .tuple #[.agg (stc x.1.2.2 (do_ s r).1), .int .i64 (do_ s r).2]) (fun x => [poolF x.1.1 x.1.2.1]) :=
  gives_dat (R := fun w S v => InS w S v (do_ s r).1) (r := fun b => .tuple #[.agg (stc b (do_ s r).1), .int .i64 (do_ s r).2]) hd (fun w hw ha => bdo v s r S w (hs w hw ha) (hd w hw ha).2 hrf)
theorem i_same {u : Sv} {t : St} (hs : ∀ w, Below w0.heap.size w0 w → All D w → InS w (Lt w.heap.size) v s) (ht : ∀ w, Below w0.heap.size w0 w → All D w → InS w (Lt w.heap.size) u t) : Gives Try.prog w0 D 8 #[.agg (stc v s), .agg (stc u t)] (.bool (decide (s = t))) := fun w hw ha => rsame v s u t w (hs w hw ha) (ht w hw ha)
theorem i_short : Gives Try.prog w0 D 6 #[.agg (stc v s)] (.bool (short s)) := gives (fun w => rshort v s w)
end
theorem all_lt {w0 : World} {D : List Fact} {v : Sv} {s : St} (h : InS w0 (Lt w0.heap.size) v s) : ∀ w, Below w0.heap.size w0 w → All D w → InS w (Lt w.heap.size) v s := fun w hw _ => h.later hw
/-- a state that a call handed back, as it stands later. -/
theorem dat_lt {w0 : World} {D : List Fact} {S : Nat → Prop} {W : World} {t : St} (x : Dat (fun w S v => InS w S v t) S W) (hd : Fixed w0 D S W) {i : Nat} (hi : D[i]? = some (poolF x.1.1 x.1.2.1)) : ∀ w, Below w0.heap.size w0 w → All D w → InS w (Lt w.heap.size) x.1.2.2 t :=
  fun w hw ha => (x.later (keeps_in t) (hd w hw ha).1 (pool_at hi ha)).lt
end Go.Proofs.Ytiljgndgffoloab.book
end
