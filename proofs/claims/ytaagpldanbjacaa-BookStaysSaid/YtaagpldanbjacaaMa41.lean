/-
  BookI3
-/
import Derived.Test.YtaagpldanbjacaaMa40
namespace Go.Proofs.Ytaagpldanbjacaa.book
open Go.RowKit Go.Proofs.Ytaagpldanbjacaa
open Go.Proofs.Ytaagpldanbjacaa.order (Or open_ worth)
open Go.Proofs.Ytaagpldanbjacaa.cell (Ce Ex)
open Go.Proofs.Ytaagpldanbjacaa.rec (Rc)
set_option linter.unusedVariables false
set_option linter.unusedSimpArgs false
set_option maxRecDepth 20000

open Go.Proofs.Ytaagpldanbjacaa.order (oz)
theorem lens_of {s : St} (hz : SizeOk s.a s.y) (hc : CountOk s) : Lens s := ⟨hz, hc.1.1, hc.1.2.1, hc.1.2.2⟩
theorem cells_same {s : St} : s.cs = cellsOf s.y s.os (s.cs.map Ce.p) ↔ CL s = s.cs := ⟨fun h => h.symm, fun h => h.symm⟩
theorem right_parts {s : St} (h : Rightly s) : SizeOk s.a s.y ∧ CountOk s ∧ BoundOk s ∧ HoldOk s ∧ StepOk s ∧ OpenOk s := by
  obtain ⟨h1, h2, h3, h4, h5, h6, h7, h8⟩ := h
  refine ⟨h1, ⟨h2, h4.2.2, h3⟩, ⟨h5, h6⟩, ⟨h4.1, h4.2.1⟩, ⟨h7.1, ?_, h8.symm⟩, h7.2.2⟩
  rw [show CL s = s.cs from h8.symm]; exact h7.2.1
theorem right_all {s : St} (h1 : SizeOk s.a s.y) (h2 : CountOk s) (h3 : BoundOk s) (h4 : HoldOk s) (h5 : StepOk s) (h6 : OpenOk s) : right s = true := by
  refine right_iff.2 ⟨h1, h2.1, h2.2.2, ⟨h4.1, h4.2, h2.2.1⟩, h3.1, h3.2, ⟨h5.1, ?_, h6⟩, h5.2.2.symm⟩
  have := h5.2.1
  rw [h5.2.2] at this; exact this
def openV (s : St) (a : Int) : Int × Int := if right s = true ∧ 0 ≤ a ∧ a < s.a then ((limit.whole (acc s.y a.toNat s.cs)).1, 0) else (0, 1)
def expoV (s : St) (a b : Int) : Ex × Int := if right s = true ∧ There s a b then ((cell.of_ (s.cs.getD (place s.y a b) cz)).1, 0) else (xz, 1)
theorem openV_no {s : St} {a : Int} (h : right s = false ∨ ¬ (0 ≤ a ∧ a < s.a)) : openV s a = (0, 1) := by
  unfold openV; rw [if_neg]; rintro ⟨h1, h2⟩
  rcases h with h | h
  · rw [h1] at h; cases h
  · exact h h2
theorem openV_yes {s : St} {a : Int} (h : right s = true) (ha : 0 ≤ a ∧ a < s.a) : openV s a = ((limit.whole (acc s.y a.toNat s.cs)).1, (limit.whole (acc s.y a.toNat s.cs)).2) := by
  unfold openV; rw [if_pos ⟨h, ha⟩]
  have := (right_parts (right_iff.1 h)).2.2.2.2.2 a.toNat (by simp; omega)
  rw [this]
theorem expo_pl {s : St} {a b : Int} (h : right s = true) (hp : ¬ placeV s a b = -1) : placeV s a b = ((place s.y a b : Nat) : Int) ∧ place s.y a b < s.cs.length ∧ There s a b := by
  have hz := (right_parts (right_iff.1 h)).1
  have ht := placeV_ne hz hp
  have h1 := placeV_is hz ht
  have h2 := (right_iff.1 h).2.1.1
  unfold place
  exact ⟨by omega, by omega, ht⟩
theorem expoV_no {s : St} {a b : Int} (h : right s = false ∨ placeV s a b = -1) : expoV s a b = (xz, 1) := by
  unfold expoV; rw [if_neg]; rintro ⟨h1, h2⟩
  rcases h with h | h
  · rw [h1] at h; cases h
  · have := placeV_is (right_parts (right_iff.1 h1)).1 h2; omega
theorem expoV_yes {s : St} {a b : Int} (h : right s = true) (hp : ¬ placeV s a b = -1) : expoV s a b = ((cell.of_ (s.cs.getD (place s.y a b) cz)).1, (cell.of_ (s.cs.getD (place s.y a b) cz)).2) := by
  have hx := expo_pl h hp
  unfold expoV; rw [if_pos ⟨h, hx.2.2⟩]
  have := ((right_iff.1 h).2.2.2.2.2.2.1.2.1 _ (getD_mem (z := cz) hx.2.1)).2
  have e : (cell.of_ (s.cs.getD (place s.y a b) cz)).2 = 0 := by unfold cell.of_; rw [if_pos (cell.right_iff.2 this)]
  rw [e]
theorem lright (v : Sv) (s : St)  (w : World) (h : InS w (Lt w.heap.size) v s) : Calls Try.prog 9 #[.agg (stc v s)] w fun e w' => e = .returned (.bool (right s)) ∧ Below w.heap.size w w' :=
  have hlen := h.len
  calls_by (fn := Try.f9) (r := .bool (right s)) (t := .cs (decide (SizeOk s.a s.y)) (.k (.cs (decide (CountOk s)) (.k (.cs (decide (BoundOk s)) (.k (.cs (decide (HoldOk s)) (.k (.cs (decide (StepOk s)) (.k (.cs (decide (OpenOk s)) .z .z)) (.k .z))) (.k (.k .z)))) (.k (.k (.k .z))))) (.k (.k (.k (.k .z)))))) (.k (.k (.k (.k (.k .z)))))) (X :=
∀ g0 : Nat, Gives Try.prog w [] 23 #[.int .i64 s.a, .int .i64 s.y] (.bool (decide (SizeOk s.a s.y))) ∧ ((decide (SizeOk s.a s.y)) = true → Gives Try.prog w [] 24 #[.agg (stc v s)] (.bool (decide (CountOk s))) ∧ ((decide (CountOk s)) = true → Gives Try.prog w [] 25 #[.agg (stc v s)] (.bool (decide (BoundOk s))) ∧ ((decide (BoundOk s)) = true → Gives Try.prog w [] 26 #[.agg (stc v s)] (.bool (decide (HoldOk s))) ∧ ((decide (HoldOk s)) = true → Gives Try.prog w [] 27 #[.agg (stc v s)] (.bool (decide (StepOk s))) ∧ ((decide (StepOk s)) = true → Gives Try.prog w [] 28 #[.agg (stc v s)] (.bool (decide (OpenOk s))) ∧ ((decide (OpenOk s)) = true → (.bool true : Value) = .bool (right s)) ∧ ((decide (OpenOk s)) = false → (.bool false : Value) = .bool (right s))) ∧ ((decide (StepOk s)) = false → (.bool false : Value) = .bool (right s))) ∧ ((decide (HoldOk s)) = false → (.bool false : Value) = .bool (right s))) ∧ ((decide (BoundOk s)) = false → (.bool false : Value) = .bool (right s))) ∧ ((decide (CountOk s)) = false → (.bool false : Value) = .bool (right s))) ∧ ((decide (SizeOk s.a s.y)) = false → (.bool false : Value) = .bool (right s))) Try.func9 (by kernel_rfl)
  (fun g0 => ⟨gives (lsize s.a s.y), fun h1 => ⟨(fun w hw _ => lcount v s w (h.later hw) (of_decide_eq_true h1)), fun h2 => ⟨(fun w hw _ => lbound v s w (h.later hw)), fun h3 => ⟨(fun w hw _ => lhold v s w (h.later hw) (of_decide_eq_true h1) (of_decide_eq_true h2).2.2.1), fun h4 => ⟨(fun w hw _ => lstep v s w (h.later hw) (lens_of (of_decide_eq_true h1) (of_decide_eq_true h2)) (of_decide_eq_true h4)), fun h5 => ⟨(fun w hw _ => lopen v s w (h.later hw) (lens_of (of_decide_eq_true h1) (of_decide_eq_true h2))), fun h6 => (by rw [right_all (of_decide_eq_true h1) (of_decide_eq_true h2) (of_decide_eq_true h3) (of_decide_eq_true h4) (of_decide_eq_true h5) (of_decide_eq_true h6)]),
 fun h6 => (by rw [right_no.2 (fun e => (of_decide_eq_false h6) (right_parts e).2.2.2.2.2)])⟩,
 fun h5 => (by rw [right_no.2 (fun e => (of_decide_eq_false h5) (right_parts e).2.2.2.2.1)])⟩,
 fun h4 => (by rw [right_no.2 (fun e => (of_decide_eq_false h4) (right_parts e).2.2.2.1)])⟩,
 fun h3 => (by rw [right_no.2 (fun e => (of_decide_eq_false h3) (right_parts e).2.2.1)])⟩,
 fun h2 => (by rw [right_no.2 (fun e => (of_decide_eq_false h2) (right_parts e).2.1)])⟩,
 fun h1 => (by rw [right_no.2 (fun e => (of_decide_eq_false h1) (right_parts e).1)])⟩)
theorem lask (v : Sv) (s : St) (r : Rc)  (w : World) (h : InS w (Lt w.heap.size) v s) (hrf : r.fine) : Calls Try.prog 29 #[.agg (stc v s), .agg (rec.rc r)] w fun e w' => e = .returned (.bool (!decide (Wrong s r))) ∧ Below w.heap.size w w' :=
  have hlen := h.len
  calls_by (fn := Try.f29) (r := .bool (!decide (Wrong s r))) (t := .cs (right s) (.k (.cs (rec.right r) (.k (.s (.k (.s (.k (.s (.k (.s (.k .z) (.k (.s .z .z)))) (.k .z))) (.k (.k .z)))) (.k (.k (.k .z))))) (.k (.k (.k (.k .z)))))) (.k (.k (.k (.k (.k .z)))))) (X :=
∀ g0 : Nat, ∀ g1 : Nat, Gives Try.prog w [] 9 #[.agg (stc v s)] (.bool (right s)) ∧ ((right s) = true → Gives Try.prog w [] 43 #[.agg (rec.rc r)] (.bool (rec.right r)) ∧ ((rec.right r) = true → ((decide (s.lsn < 1000000000)) = true → ((decide (r.a < s.a)) = true → ((decide (r.y < s.y)) = true → ((!decide (r.k = 1)) = true → (.bool true : Value) = .bool (!decide (Wrong s r))) ∧ ((!decide (r.k = 1)) = false → ((decide (r.o > s.last)) = true → (.bool true : Value) = .bool (!decide (Wrong s r))) ∧ ((decide (r.o > s.last)) = false → (.bool false : Value) = .bool (!decide (Wrong s r))))) ∧ ((decide (r.y < s.y)) = false → (.bool false : Value) = .bool (!decide (Wrong s r)))) ∧ ((decide (r.a < s.a)) = false → (.bool false : Value) = .bool (!decide (Wrong s r)))) ∧ ((decide (s.lsn < 1000000000)) = false → (.bool false : Value) = .bool (!decide (Wrong s r)))) ∧ ((rec.right r) = false → (.bool false : Value) = .bool (!decide (Wrong s r)))) ∧ ((right s) = false → (.bool false : Value) = .bool (!decide (Wrong s r)))) Try.func29 (by kernel_rfl)
  (fun g0 => fun g1 => ⟨(fun w hw _ => lright v s w (h.later hw)), fun h1 => ⟨l_rec hrf, fun h2 => ⟨fun h3 => have h3 : s.lsn < 1000000000 := (by simpa using h3)
⟨fun h4 => have h4 : r.a < s.a := (by simpa using h4)
⟨fun h5 => have h5 : r.y < s.y := (by simpa using h5)
⟨fun h6 => have h6 : ¬ r.k = 1 := (by simpa using h6)
(by rw [decide_eq_false (wrong_no h1 h2 (by omega) (by omega) (by omega) (fun _ => by omega))] <;> rfl),
 fun h6 => have h6 : r.k = 1 := (by simpa using h6)
⟨fun h7 => have h7 : s.last < r.o := (by simpa using h7)
(by rw [decide_eq_false (wrong_no h1 h2 (by omega) (by omega) (by omega) (fun _ => by omega))] <;> rfl),
 fun h7 => have h7 : ¬ s.last < r.o := (by simpa using h7)
(by rw [decide_eq_true (show Wrong s r from by unfold Wrong; right; right; omega)] <;> rfl)⟩⟩,
 fun h5 => have h5 : ¬ r.y < s.y := (by simpa using h5)
(by rw [decide_eq_true (show Wrong s r from by unfold Wrong; right; right; omega)] <;> rfl)⟩,
 fun h4 => have h4 : ¬ r.a < s.a := (by simpa using h4)
(by rw [decide_eq_true (show Wrong s r from by unfold Wrong; right; right; omega)] <;> rfl)⟩,
 fun h3 => have h3 : ¬ s.lsn < 1000000000 := (by simpa using h3)
(by rw [decide_eq_true (show Wrong s r from by unfold Wrong; right; right; omega)] <;> rfl)⟩,
 fun h2 => (by rw [decide_eq_true (show Wrong s r from .inr (.inl h2))] <;> rfl)⟩,
 fun h1 => (by rw [decide_eq_true (show Wrong s r from .inl h1)] <;> rfl)⟩)
theorem lopens (v : Sv) (s : St) (a : Int)  (w : World) (h : InS w (Lt w.heap.size) v s) : Calls Try.prog 14 #[.agg (stc v s), .int .i64 a] w fun e w' => e = .returned (.tuple #[.int .i64 (openV s a).1, .int .i64 (openV s a).2]) ∧ Below w.heap.size w w' :=
  have hlen := h.len
  calls_by (fn := Try.f14) (r := .tuple #[.int .i64 (openV s a).1, .int .i64 (openV s a).2]) (t := .s (.k (.k .z)) (.k (.s (.k .z) (.k (.cs (right s) (.c (.slice (cutAt v.A2 v.c2 (a.toNat * s.y.toNat) 4) s.y.toNat (v.c2 - a.toNat * s.y.toNat)) (.c (.tuple #[.int .i64 ((limit.whole (acc s.y a.toNat s.cs)).1), .int .i64 ((limit.whole (acc s.y a.toNat s.cs)).2)]) .z)) .z))))) (X :=
∀ g0 : Nat, ((decide (a < 0)) = true → (.tuple #[.int .i64 0, .int .i64 1] : Value) = .tuple #[.int .i64 (openV s a).1, .int .i64 (openV s a).2]) ∧ ((decide (a < 0)) = false → ((decide (a ≥ s.a)) = true → (.tuple #[.int .i64 0, .int .i64 1] : Value) = .tuple #[.int .i64 (openV s a).1, .int .i64 (openV s a).2]) ∧ ((decide (a ≥ s.a)) = false → Gives Try.prog w [] 9 #[.agg (stc v s)] (.bool (right s)) ∧ ((right s) = true → Gives Try.prog w [] 35 #[.agg (stc v s), .int .i64 a] (.slice (cutAt v.A2 v.c2 (a.toNat * s.y.toNat) 4) s.y.toNat (v.c2 - a.toNat * s.y.toNat)) ∧ Gives Try.prog w [] 34 #[.slice (cutAt v.A2 v.c2 (a.toNat * s.y.toNat) 4) s.y.toNat (v.c2 - a.toNat * s.y.toNat)] (.tuple #[.int .i64 ((limit.whole (acc s.y a.toNat s.cs)).1), .int .i64 ((limit.whole (acc s.y a.toNat s.cs)).2)]) ∧ (.tuple #[.int .i64 ((limit.whole (acc s.y a.toNat s.cs)).1), .int .i64 ((limit.whole (acc s.y a.toNat s.cs)).2)] : Value) = .tuple #[.int .i64 (openV s a).1, .int .i64 (openV s a).2]) ∧ ((right s) = false → (.tuple #[.int .i64 0, .int .i64 1] : Value) = .tuple #[.int .i64 (openV s a).1, .int .i64 (openV s a).2])))) Try.func14 (by kernel_rfl)
  (fun g0 => ⟨fun h1 => have h1 : a < 0 := (by simpa using h1)
(by rw [openV_no (.inr (by omega))]),
 fun h1 => have h1 : ¬ a < 0 := (by simpa using h1)
⟨fun h2 => have h2 : ¬ a < s.a := (by simpa using h2)
(by rw [openV_no (.inr (by omega))]),
 fun h2 => have h2 : a < s.a := (by simpa using h2)
⟨(fun w hw _ => lright v s w (h.later hw)), fun h3 => ⟨(fun w hw _ => lcells v s a w (h.later hw) (Lens.of (right_iff.1 h3)) (by omega)), ⟨l_whole (fun w hw _ => acc_reads (h.later hw).c h.nc.1) (acc_length (lim_rng (Lens.of (right_iff.1 h3)) (a := a) (by omega)).2.2.2.2.1) (by have := (lim_rng (Lens.of (right_iff.1 h3)) (a := a) (by omega)).2.2.2.2.2.2.1; omega), (by rw [openV_yes h3 (by omega)])⟩⟩,
 fun h3 => (by rw [openV_no (.inl h3)])⟩⟩⟩)
theorem lexpo (v : Sv) (s : St) (a b : Int)  (w : World) (h : InS w (Lt w.heap.size) v s) : Calls Try.prog 22 #[.agg (stc v s), .int .i64 a, .int .i64 b] w fun e w' => e = .returned (.tuple #[.agg (cell.xc (expoV s a b).1), .int .i64 (expoV s a b).2]) ∧ Below w.heap.size w w' :=
  have hlen := h.len
  calls_by (fn := Try.f22) (r := .tuple #[.agg (cell.xc (expoV s a b).1), .int .i64 (expoV s a b).2]) (t := .c (.int .i64 (placeV s a b)) (.s (.k .z) (.k (.cs (right s) (.p (blkA v.A2) (offA v.A2 + (place s.y a b) * 4) (cell.cc (s.cs.getD (place s.y a b) cz)) (.c (.tuple #[.agg (cell.xc ((cell.of_ (s.cs.getD (place s.y a b) cz)).1)), .int .i64 ((cell.of_ (s.cs.getD (place s.y a b) cz)).2)]) .z)) .z)))) (X :=
∀ g0 : Nat, ∀ g1 : Nat, Gives Try.prog w [] 16 #[.agg (stc v s), .int .i64 a, .int .i64 b] (.int .i64 (placeV s a b)) ∧ ((decide ((placeV s a b) = (-1))) = true → (.tuple #[.agg #[.int .i64 0, .int .i64 0, .int .i64 0], .int .i64 1] : Value) = .tuple #[.agg (cell.xc (expoV s a b).1), .int .i64 (expoV s a b).2]) ∧ ((decide ((placeV s a b) = (-1))) = false → Gives Try.prog w [] 9 #[.agg (stc v s)] (.bool (right s)) ∧ ((right s) = true → Yields0 Try.prog w [] (Instr.indexAt 23 (.slice v.A2 s.cs.length v.c2) (.int .i64 (placeV s a b))) (.pointer (some ⟨blkA v.A2, offA v.A2 + (place s.y a b) * 4, none⟩)) ∧ Reads0 w [] (blkA v.A2) (offA v.A2 + (place s.y a b) * 4) (cell.cc (s.cs.getD (place s.y a b) cz)) ∧ Gives Try.prog w [] 12 #[.agg (cell.cc (s.cs.getD (place s.y a b) cz))] (.tuple #[.agg (cell.xc ((cell.of_ (s.cs.getD (place s.y a b) cz)).1)), .int .i64 ((cell.of_ (s.cs.getD (place s.y a b) cz)).2)]) ∧ (.tuple #[.agg (cell.xc ((cell.of_ (s.cs.getD (place s.y a b) cz)).1)), .int .i64 ((cell.of_ (s.cs.getD (place s.y a b) cz)).2)] : Value) = .tuple #[.agg (cell.xc (expoV s a b).1), .int .i64 (expoV s a b).2]) ∧ ((right s) = false → (.tuple #[.agg #[.int .i64 0, .int .i64 0, .int .i64 0], .int .i64 1] : Value) = .tuple #[.agg (cell.xc (expoV s a b).1), .int .i64 (expoV s a b).2]))) Try.func22 (by kernel_rfl)
  (fun g0 => fun g1 => ⟨gives (lplace v s _ _), ⟨fun h1 => have h1 : (placeV s a b) = (-1) := (by simpa using h1)
(by rw [expoV_no (.inr h1)] <;> rfl),
 fun h1 => have h1 : ¬ (placeV s a b) = (-1) := (by simpa using h1)
⟨(fun w hw _ => lright v s w (h.later hw)), fun h2 => ⟨(index_at (expo_pl h2 h1).1 (low_index Try.underlying23 info_cell cell_cells (Nat.le_refl _) h.c rfl (expo_pl h2 h1).2.1)), (low_reads cell_cells (Nat.le_refl _) h.c (at_getD (expo_pl h2 h1).2.1)), ⟨l_of (fine_ce h.c _ (getD_mem (expo_pl h2 h1).2.1)), (by rw [expoV_yes h2 h1] <;> rfl)⟩⟩,
 fun h2 => (by rw [expoV_no (.inl h2)] <;> rfl)⟩⟩⟩)

end Go.Proofs.Ytaagpldanbjacaa.book
