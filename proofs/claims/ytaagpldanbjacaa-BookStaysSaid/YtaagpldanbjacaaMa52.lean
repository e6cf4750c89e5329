/-
  BookImpl, BookIg, Awake10
-/
import Derived.Test.YtaagpldanbjacaaMa48
import Derived.Test.YtaagpldanbjacaaMa50
import Derived.Test.YtaagpldanbjacaaMa51
section
namespace Go.Proofs.Ytaagpldanbjacaa.book
open Go.RowKit Go.Proofs.Ytaagpldanbjacaa
open Go.Proofs.Ytaagpldanbjacaa.order (Or open_ worth)
open Go.Proofs.Ytaagpldanbjacaa.cell (Ce Ex)
open Go.Proofs.Ytaagpldanbjacaa.rec (Rc)
set_option linter.unusedVariables false
set_option linter.unusedSimpArgs false
set_option maxRecDepth 20000

open Go.Proofs.Ytaagpldanbjacaa.order (oz)
theorem bright (v : Sv) (s : St) (w : World) (h : InS w (Lt w.heap.size) v s) : Calls Try.prog 9 #[.agg (stc v s)] w fun e w' => e = .returned (.bool (right s)) ∧ Below w.heap.size w w' := lright v s w h
theorem bfind (v : Sv) (s : St) (id : Int) (w : World) (h : InS w (Lt w.heap.size) v s) : Calls Try.prog 15 #[.agg (stc v s), .int .i64 id] w fun e w' => e = .returned (.int .i64 (findI s.os id)) ∧ Below w.heap.size w w' := lfind v s id w h
theorem bopen (v : Sv) (s : St) (a : Int) (w : World) (h : InS w (Lt w.heap.size) v s) (_ha : frame.inR a) : Calls Try.prog 14 #[.agg (stc v s), .int .i64 a] w fun e w' => e = .returned (.tuple #[.int .i64 (openV s a).1, .int .i64 (openV s a).2]) ∧ Below w.heap.size w w' := lopens v s a w h
theorem bexpo (v : Sv) (s : St) (a b : Int) (w : World) (h : InS w (Lt w.heap.size) v s) (_ha : frame.inR a) (_hb : frame.inR b) : Calls Try.prog 22 #[.agg (stc v s), .int .i64 a, .int .i64 b] w fun e w' => e = .returned (.tuple #[.agg (cell.xc (expoV s a b).1), .int .i64 (expoV s a b).2]) ∧ Below w.heap.size w w' := lexpo v s a b w h
theorem bplace (v : Sv) (s : St) (a b : Int) (w : World) (_ha : frame.inR a) (_hb : frame.inR b) : Calls Try.prog 16 #[.agg (stc v s), .int .i64 a, .int .i64 b] w fun e w' => ∃ p : Int, e = .returned (.int .i64 p) ∧ Below w.heap.size w w' ∧ (¬ There s a b → p = -1) ∧ (There s a b → right s = true → p = a * s.y + b) :=
  (lplace v s a b w).mono (by rintro e w' ⟨rfl, hb⟩; exact ⟨_, rfl, hb, placeV_no, fun ht hr => (placeV_is (right_iff.1 hr).1 ht).1⟩)
theorem bnew (a y : Int) (l : Ex) (c : Int) (w : World) (_ha : frame.inR a) (_hy : frame.inR y) (hl : l.fine) (hc : frame.inR c) : Calls Try.prog 21 #[.int .i64 a, .int .i64 y, .agg (cell.xc l), .int .i64 c] w fun e w' => ∃ x : Sv, e = .returned (.tuple #[.agg (stc x (newV a y l c).1), .int .i64 (newV a y l c).2]) ∧ Below w.heap.size w w' ∧ InS w' (fun k => w.heap.size ≤ k ∧ k < w'.heap.size) x (newV a y l c).1 := lnew a y l c w hl hc
theorem bmay (v : Sv) (s : St) (r : Rc)  (w : World) (h : InS w (Lt w.heap.size) v s) (hrf : r.fine) : Calls Try.prog 19 #[.agg (stc v s), .agg (rec.rc r)] w fun e w' => e = .returned (.int .i64 (do_ s r).2) ∧ Below w.heap.size w w' :=
  calls_by (fn := Try.f19) (r := .int .i64 (do_ s r).2) (t := .cm (Dat (fun w S v => InS w S v (do_ s r).1) (Lt w.heap.size) w) (fun x => .tuple #[.agg (stc x.1.2.2 ((do_ s r).1)), .int .i64 ((do_ s r).2)]) (fun x => [poolF x.1.1 x.1.2.1]) (fun x1 => .z)) (X :=
∀ g0 : Nat, ∀ g1 : Nat, GivesM Try.prog w [] 10 #[.agg (stc v s), .agg (rec.rc r)] (Dat (fun w S v => InS w S v (do_ s r).1) (Lt w.heap.size) w) (fun x => .tuple #[.agg (stc x.1.2.2 ((do_ s r).1)), .int .i64 ((do_ s r).2)]) (fun x => [poolF x.1.1 x.1.2.1]) ∧ ∀ x1 : Dat (fun w S v => InS w S v (do_ s r).1) (Lt w.heap.size) w, ∀ g2 : Nat, (.int .i64 ((do_ s r).2) : Value) = .int .i64 (do_ s r).2) Try.func19 (by kernel_rfl)
  (fun g0 => fun g1 => ⟨(gives_dat (R := fun w S v => InS w S v (do_ s r).1) (r := fun b => .tuple #[.agg (stc b (do_ s r).1), .int .i64 (do_ s r).2]) (fixed_low (fun k hk => hk)) (fun w2 hw ha => bdo v s r (Lt w.heap.size) w2 (h.below hw) (fun k hk => Nat.lt_of_lt_of_le hk hw.size) hrf)), fun x1 => fun g2 => rfl⟩)

end Go.Proofs.Ytaagpldanbjacaa.book
end
section
namespace Go.Proofs.Ytaagpldanbjacaa.book
open Go.RowKit Go.Proofs.Ytaagpldanbjacaa
open Go.Proofs.Ytaagpldanbjacaa.order (Or open_ worth oz)
open Go.Proofs.Ytaagpldanbjacaa.cell (Ce Ex)
open Go.Proofs.Ytaagpldanbjacaa.rec (Rc)
set_option linter.unusedVariables false
section
variable {w0 : World} {D : List Fact} {v : Sv} {s : St} {r : Rc}
theorem i_right (hs : ∀ w, Below w0.heap.size w0 w → All D w → InS w (Lt w.heap.size) v s) : Gives Try.prog w0 D 9 #[.agg (stc v s)] (.bool (right s)) := fun w hw ha => bright v s w (hs w hw ha)
theorem i_find {id : Int} (hs : ∀ w, Below w0.heap.size w0 w → All D w → InS w (Lt w.heap.size) v s) : Gives Try.prog w0 D 15 #[.agg (stc v s), .int .i64 id] (.int .i64 (findI s.os id)) := fun w hw ha => bfind v s id w (hs w hw ha)
theorem i_open {a : Int} (hs : ∀ w, Below w0.heap.size w0 w → All D w → InS w (Lt w.heap.size) v s) (ha : frame.inR a) : Gives Try.prog w0 D 14 #[.agg (stc v s), .int .i64 a] (.tuple #[.int .i64 (openV s a).1, .int .i64 (openV s a).2]) := fun w hw hd => bopen v s a w (hs w hw hd) ha
theorem i_may (hs : ∀ w, Below w0.heap.size w0 w → All D w → InS w (Lt w.heap.size) v s) (hrf : r.fine) : Gives Try.prog w0 D 19 #[.agg (stc v s), .agg (rec.rc r)] (.int .i64 (do_ s r).2) := fun w hw ha => bmay v s r w (hs w hw ha) hrf
theorem i_do {S : Nat → Prop} {W : World} (hd : Fixed w0 D S W) (hs : ∀ w, Below w0.heap.size w0 w → All D w → InS w S v s) (hrf : r.fine) :
    GivesM Try.prog w0 D 10 #[.agg (stc v s), .agg (rec.rc r)] (Dat (fun w S v => InS w S v (do_ s r).1) S W) (fun x => .tuple #[.agg (stc x.1.2.2 (do_ s r).1), .int .i64 (do_ s r).2]) (fun x => [poolF x.1.1 x.1.2.1]) :=
  gives_dat (R := fun w S v => InS w S v (do_ s r).1) (r := fun b => .tuple #[.agg (stc b (do_ s r).1), .int .i64 (do_ s r).2]) hd (fun w hw ha => bdo v s r S w (hs w hw ha) (hd w hw ha).2 hrf)
theorem i_same {u : Sv} {t : St} (hs : ∀ w, Below w0.heap.size w0 w → All D w → InS w (Lt w.heap.size) v s) (ht : ∀ w, Below w0.heap.size w0 w → All D w → InS w (Lt w.heap.size) u t) : Gives Try.prog w0 D 11 #[.agg (stc v s), .agg (stc u t)] (.bool (decide (s = t))) := fun w hw ha => rsame v s u t w (hs w hw ha) (ht w hw ha)
theorem i_short : Gives Try.prog w0 D 8 #[.agg (stc v s)] (.bool (short s)) := gives (fun w => rshort v s w)
end
theorem all_lt {w0 : World} {D : List Fact} {v : Sv} {s : St} (h : InS w0 (Lt w0.heap.size) v s) : ∀ w, Below w0.heap.size w0 w → All D w → InS w (Lt w.heap.size) v s := fun w hw _ => h.later hw
/-- a state that a call handed back, as it stands later. -/
theorem dat_lt {w0 : World} {D : List Fact} {S : Nat → Prop} {W : World} {t : St} (x : Dat (fun w S v => InS w S v t) S W) (hd : Fixed w0 D S W) {i : Nat} (hi : D[i]? = some (poolF x.1.1 x.1.2.1)) : ∀ w, Below w0.heap.size w0 w → All D w → InS w (Lt w.heap.size) x.1.2.2 t :=
  fun w hw ha => (x.later (keeps_in t) (hd w hw ha).1 (pool_at hi ha)).lt
end Go.Proofs.Ytaagpldanbjacaa.book
end
section
namespace Go.Proofs.Ytaagpldanbjacaa.book
open Go.RowKit Go.Proofs.Ytaagpldanbjacaa
open Go.Proofs.Ytaagpldanbjacaa.order (Or open_ worth)
open Go.Proofs.Ytaagpldanbjacaa.cell (Ce Ex)
open Go.Proofs.Ytaagpldanbjacaa.rec (Rc)
set_option linter.unusedVariables false
set_option linter.unusedSimpArgs false
set_option maxRecDepth 20000

def aX : Ex := ⟨5, 0, 50⟩
def aL : Ex := ⟨5, 5, 50⟩
def aS : St := newS 1 2 aL 60
def aR0 : Rc := { k := 1, o := 3, a := 0, y := 1, d := 1, q := 5, p := 10, l := 0, s := 0, n := 0, on := false, z := 0, t := 0 }
def aR1 : Rc := { k := 1, o := 4, a := 0, y := 1, d := 1, q := 1, p := 1, l := 0, s := 0, n := 0, on := false, z := 0, t := 0 }
def aR2 : Rc := { k := 1, o := 4, a := 0, y := 0, d := 1, q := 2, p := 6, l := 0, s := 0, n := 0, on := false, z := 0, t := 0 }
def aT : St := (do_ aS aR0).1
theorem aX_fine : aX.fine := by unfold aX Ex.fine frame.inR; simp
theorem aL_fine : aL.fine := by unfold aL Ex.fine frame.inR; simp
theorem aS_new : newV 1 2 aL 60 = (aS, 0) := by decide +kernel
theorem aT_do : (do_ aS aR0).2 = 0 := by decide +kernel
theorem aw_new {w0 : World} {D : List Fact} {S : Nat → Prop} {W : World} (hd : Fixed w0 D S W) : GivesM Try.prog w0 D 21 #[.int .i64 1, .int .i64 2, .agg (cell.xc aL), .int .i64 60] (Dat (fun w S v => InS w S v aS) S W) (fun x => .tuple #[.agg (stc x.1.2.2 aS), .int .i64 0]) (fun x => [poolF x.1.1 x.1.2.1]) :=
  gives_dat (R := fun w S v => InS w S v aS) (r := fun b => .tuple #[.agg (stc b aS), .int .i64 0]) hd (fun w hw ha => (bnew 1 2 aL 60 w (by unfold frame.inR; omega) (by unfold frame.inR; omega) aL_fine (by unfold frame.inR; omega)).mono (by
    rw [aS_new]
    rintro e w' ⟨x, rfl, hb, hi⟩
    exact ⟨x, rfl, hb, hi.keep (alike_refl _ _) (fun _ h => .inr h)⟩))
theorem fixed_pool {w0 : World} {D : List Fact} {W : World} {t : St} (x : Dat (fun w S v => InS w S v t) (fun _ => False) W) {i : Nat} (hi : D[i]? = some (poolF x.1.1 x.1.2.1)) : Fixed w0 D x.1.2.1 x.1.1 := fun w hw ha => ⟨pool_at hi ha, fun k hk => by
  have h1 := pool_at hi ha k hk
  rw [Array.getElem?_eq_getElem (x.2.2.2 k hk)] at h1
  exact (Array.getElem?_eq_some_iff.1 h1).1⟩
theorem aw_low {w0 : World} {D : List Fact} {W : World} {t : St} (x : Dat (fun w S v => InS w S v t) (fun _ => False) W) {i : Nat} (hi : D[i]? = some (poolF x.1.1 x.1.2.1)) : ∀ w, Below w0.heap.size w0 w → All D w → InS w x.1.2.1 x.1.2.2 t :=
  fun w hw ha => (x.later (keeps_in t) (fun k hk => hk.elim) (pool_at hi ha)).keep (alike_refl _ _) (fun k h => h.resolve_left id)
theorem aR0_fine : aR0.fine := by unfold aR0 Rc.fine frame.inR; simp
theorem aR1_fine : aR1.fine := by unfold aR1 Rc.fine frame.inR; simp
theorem aR2_fine : aR2.fine := by unfold aR2 Rc.fine frame.inR; simp
theorem aw_do {w0 : World} {D : List Fact} {v : Sv} {S : Nat → Prop} {W : World} (hd : Fixed w0 D S W) (hs : ∀ w, Below w0.heap.size w0 w → All D w → InS w S v aS) : GivesM Try.prog w0 D 10 #[.agg (stc v aS), .agg (rec.rc aR0)] (Dat (fun w S v => InS w S v aT) S W) (fun x => .tuple #[.agg (stc x.1.2.2 aT), .int .i64 0]) (fun x => [poolF x.1.1 x.1.2.1]) := by
  have h := i_do (r := aR0) hd hs aR0_fine
  rw [aT_do] at h
  exact h
section
variable {w0 : World} {D : List Fact} {v : Sv}
theorem aw_expo (hs : ∀ w, Below w0.heap.size w0 w → All D w → InS w (Lt w.heap.size) v aT) : Gives Try.prog w0 D 22 #[.agg (stc v aT), .int .i64 0, .int .i64 1] (.tuple #[.agg (cell.xc aX), .int .i64 0]) := fun w hw ha => by
  have h := bexpo v aT 0 1 w (hs w hw ha) (by unfold frame.inR; omega) (by unfold frame.inR; omega)
  rw [show expoV aT 0 1 = (aX, 0) by decide +kernel] at h
  exact h
theorem aw_open (hs : ∀ w, Below w0.heap.size w0 w → All D w → InS w (Lt w.heap.size) v aT) : Gives Try.prog w0 D 14 #[.agg (stc v aT), .int .i64 0] (.tuple #[.int .i64 50, .int .i64 0]) := fun w hw ha => by
  have h := bopen v aT 0 w (hs w hw ha) (by unfold frame.inR; omega)
  rw [show openV aT 0 = (50, 0) by decide +kernel] at h
  exact h
theorem aw_may1 (hs : ∀ w, Below w0.heap.size w0 w → All D w → InS w (Lt w.heap.size) v aT) : Gives Try.prog w0 D 19 #[.agg (stc v aT), .agg (rec.rc aR1)] (.int .i64 4) := fun w hw ha => by
  have h := bmay v aT aR1 w (hs w hw ha) aR1_fine
  rw [show (do_ aT aR1).2 = 4 by decide +kernel] at h
  exact h
theorem aw_may2 (hs : ∀ w, Below w0.heap.size w0 w → All D w → InS w (Lt w.heap.size) v aT) : Gives Try.prog w0 D 19 #[.agg (stc v aT), .agg (rec.rc aR2)] (.int .i64 4) := fun w hw ha => by
  have h := bmay v aT aR2 w (hs w hw ha) aR2_fine
  rw [show (do_ aT aR2).2 = 4 by decide +kernel] at h
  exact h
theorem aw_find (hs : ∀ w, Below w0.heap.size w0 w → All D w → InS w (Lt w.heap.size) v aT) : Gives Try.prog w0 D 15 #[.agg (stc v aT), .int .i64 3] (.int .i64 0) := fun w hw ha => by
  have h := bfind v aT 3 w (hs w hw ha)
  rw [show findI aT.os 3 = 0 by decide +kernel] at h
  exact h
theorem aw_right (hs : ∀ w, Below w0.heap.size w0 w → All D w → InS w (Lt w.heap.size) v aT) : Gives Try.prog w0 D 9 #[.agg (stc v aT)] (.bool true) := fun w hw ha => by
  have h := bright v aT w (hs w hw ha)
  rw [show right aT = true by decide +kernel] at h
  exact h
end
theorem aw_place {v : Sv} (w : World) : Calls Try.prog 16 #[.agg (stc v aT), .int .i64 0, .int .i64 1] w fun e w' => e = .returned (.int .i64 1) ∧ Below w.heap.size w w' := by
  have h := lplace v aT 0 1 w
  rw [show placeV aT 0 1 = 1 by decide +kernel] at h
  exact h
theorem aw_eq {w0 : World} {D : List Fact} {m : Sem Value} (h : Yields0 Try.prog w0 D m (.bool (decide (aX = aX)))) : Yields0 Try.prog w0 D m (.bool true) := by simpa using h
theorem awake_any   (w : World) : Calls Try.prog 7 #[] w fun e w' => e = .returned (.bool true) ∧ Below w.heap.size w w' :=
  have hlsn : aT.lsn = 1 := by decide +kernel
  calls_by (fn := Try.f7) (r := .bool true) (t := .cm (Dat (fun w S v => InS w S v aS) (fun _ => False) w) (fun x => .tuple #[.agg (stc x.1.2.2 aS), .int .i64 0]) (fun x => [poolF x.1.1 x.1.2.1]) (fun x1 => .cm (Dat (fun w S v => InS w S v aT) x1.1.2.1 x1.1.1) (fun x => .tuple #[.agg (stc x.1.2.2 aT), .int .i64 0]) (fun x => [poolF x.1.1 x.1.2.1]) (fun x2 => .c (.tuple #[.agg (cell.xc aX), .int .i64 0]) (.c (.tuple #[.int .i64 50, .int .i64 0]) (.c (.int .i64 4) (.c (.int .i64 4) (.k (.k (.k (.k (.k (.k (.k (.k (.x (.bool true) (.k (.k (.k (.k (.k (.k (.k (.c (.int .i64 0) (.k (.k (.c (.int .i64 1) (.k (.k (.c (.bool true) (.k (.m true .z))))))))))))))))))))))))))))))) (X :=
 GivesM Try.prog w [] 21 #[.int .i64 1, .int .i64 2, .agg (cell.xc aL), .int .i64 60] (Dat (fun w S v => InS w S v aS) (fun _ => False) w) (fun x => .tuple #[.agg (stc x.1.2.2 aS), .int .i64 0]) (fun x => [poolF x.1.1 x.1.2.1]) ∧ ∀ x1 : Dat (fun w S v => InS w S v aS) (fun _ => False) w, ∀ g0 : Nat, GivesM Try.prog w [poolF x1.1.1 x1.1.2.1] 10 #[.agg (stc x1.1.2.2 aS), .agg (rec.rc aR0)] (Dat (fun w S v => InS w S v aT) x1.1.2.1 x1.1.1) (fun x => .tuple #[.agg (stc x.1.2.2 aT), .int .i64 0]) (fun x => [poolF x.1.1 x.1.2.1]) ∧ ∀ x2 : Dat (fun w S v => InS w S v aT) x1.1.2.1 x1.1.1, ∀ g1 : Nat, Gives Try.prog w [poolF x2.1.1 x2.1.2.1, poolF x1.1.1 x1.1.2.1] 22 #[.agg (stc x2.1.2.2 aT), .int .i64 0, .int .i64 1] (.tuple #[.agg (cell.xc aX), .int .i64 0]) ∧ ∀ g2 : Nat, Gives Try.prog w [poolF x2.1.1 x2.1.2.1, poolF x1.1.1 x1.1.2.1] 14 #[.agg (stc x2.1.2.2 aT), .int .i64 0] (.tuple #[.int .i64 50, .int .i64 0]) ∧ Gives Try.prog w [poolF x2.1.1 x2.1.2.1, poolF x1.1.1 x1.1.2.1] 19 #[.agg (stc x2.1.2.2 aT), .agg (rec.rc aR1)] (.int .i64 4) ∧ Gives Try.prog w [poolF x2.1.1 x2.1.2.1, poolF x1.1.1 x1.1.2.1] 19 #[.agg (stc x2.1.2.2 aT), .agg (rec.rc aR2)] (.int .i64 4) ∧ Yields0 Try.prog w [poolF x2.1.1 x2.1.2.1, poolF x1.1.1 x1.1.2.1] (do eqGuard BinOp.eql 37 (.tmp 53) (.tmp 54) (.agg (cell.xc aX)) (.agg (cell.xc aX)); Go.binOp BinOp.eql 37 (.agg (cell.xc aX)) (.agg (cell.xc aX))) (.bool true) ∧ Gives Try.prog w [poolF x2.1.1 x2.1.2.1, poolF x1.1.1 x1.1.2.1] 15 #[.agg (stc x2.1.2.2 aT), .int .i64 3] (.int .i64 0) ∧ Gives Try.prog w [poolF x2.1.1 x2.1.2.1, poolF x1.1.1 x1.1.2.1] 16 #[.agg (stc x2.1.2.2 aT), .int .i64 0, .int .i64 1] (.int .i64 1) ∧ Gives Try.prog w [poolF x2.1.1 x2.1.2.1, poolF x1.1.1 x1.1.2.1] 9 #[.agg (stc x2.1.2.2 aT)] (.bool true) ∧ (decide (aT.lsn = 1)) = true ∧ (.bool true : Value) = .bool true) Try.func7 (by kernel_rfl)
  (⟨aw_new (fixed_low (fun k hk => hk.elim)), fun x1 => fun g0 => ⟨aw_do (fixed_pool x1 (i := 0) rfl) (aw_low x1 (i := 0) rfl), fun x2 => fun g1 => ⟨aw_expo (dat_lt x2 (fixed_pool x1 (i := 1) rfl) (i := 0) rfl), fun g2 => ⟨aw_open (dat_lt x2 (fixed_pool x1 (i := 1) rfl) (i := 0) rfl), ⟨aw_may1 (dat_lt x2 (fixed_pool x1 (i := 1) rfl) (i := 0) rfl), ⟨aw_may2 (dat_lt x2 (fixed_pool x1 (i := 1) rfl) (i := 0) rfl), ⟨(aw_eq (eql_agg (by kernel_rfl) (cell.run_eq3 aX aX aX_fine aX_fine) _ _)), ⟨aw_find (dat_lt x2 (fixed_pool x1 (i := 1) rfl) (i := 0) rfl), ⟨gives aw_place, ⟨aw_right (dat_lt x2 (fixed_pool x1 (i := 1) rfl) (i := 0) rfl), ⟨by simp only [decide_eq_true_eq, decide_eq_false_iff_not, Bool.not_eq_true', Bool.not_eq_false', Bool.not_eq_eq_eq_not, Bool.not_true, Bool.not_false]; omega, rfl⟩⟩⟩⟩⟩⟩⟩⟩⟩⟩⟩)

end Go.Proofs.Ytaagpldanbjacaa.book
end
