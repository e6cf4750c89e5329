/-
  PROVED: the law BookLess answers true at every input, and leaves what it was given as it was.
  CONDITIONS: none.
-/
import Derived.Test.YtaagpldanbjacaaRows
import Derived.WalkKit
import Derived.ProofKit
import Derived.OpenShut
import Derived.ShutString
import Derived.ChangeOld
import Derived.Below
import Derived.Test.YtaagpldanbjacaaMa04
import Derived.Test.YtaagpldanbjacaaMa52
import Derived.Test.YtaagpldanbjacaaMa53
import Derived.Test.YtaagpldanbjacaaMa25
import Derived.Test.YtaagpldanbjacaaMa37
import Derived.Test.YtaagpldanbjacaaMa17
namespace Go.Proofs.Ytaagpldanbjacaa.bookLess
open Go.ChangeShapes Go.WideShapes Go.ChangeAt Go.RowKit
open Go.ChangeMaps (open_string shut_string)
open Go.Proofs.Ytaagpldanbjacaa Go.Proofs.Ytaagpldanbjacaa.book
open Go.Proofs.Ytaagpldanbjacaa.order (Or open_ worth oz)
open Go.Proofs.Ytaagpldanbjacaa.cell (Ce Ex)
open Go.Proofs.Ytaagpldanbjacaa.rec (Rc)
set_option linter.unusedVariables false

theorem own : ownKnob Try.prog.godebug = none := by kernel_rfl
theorem laidOut : laidOutB Try.prog = true := by kernel_rfl

-- VX BEGINS
section
variable {w0 : World} {D : List Fact}
theorem i_of {c : Ce} (hf : c.fine) : Gives Try.prog w0 D 12 #[.agg (cell.cc c)] (.tuple #[.agg (cell.xc (cell.of_ c).1), .int .i64 (cell.of_ c).2]) := by
  obtain ⟨p, b, s, n⟩ := c
  exact gives (fun w => cell.of_any p b s n hf w)
theorem i_covers {x y : Ex} : Gives Try.prog w0 D 13 #[.agg (cell.xc x), .agg (cell.xc y)] (.bool (cell.covers x y)) := gives (fun w => cell.covers_is x.l x.s x.n y.l y.s y.n rfl w)
end
theorem same_no {s : St} {r : Rc} (h : ¬ (do_ s r).2 = 0) : s = (do_ s r).1 := ((do_err (s := s) (r := r) (t := (do_ s r).1) (e := (do_ s r).2) rfl).resolve_left h).symm
theorem is_ok {s : St} {r : Rc} (h : (do_ s r).2 = 0) : do_ s r = ((do_ s r).1, 0) := by rw [← h]
theorem got {s : St} {r : Rc} (hk : r.k = 6) (h : (do_ s r).2 = 0) : right (do_ s r).1 = true ∧ (do_ s r).1.seq = r.z ∧ r.z = s.seq + 1 ∧ (do_ s r).1.lsn = s.lsn + 1 ∧ (do_ s r).1.last = s.last ∧ (do_ s r).1.cs.length = s.cs.length ∧ (do_ s r).1.a = s.a ∧ ((do_ s r).1.os.length = s.os.length ∨ (do_ s r).1.os.length = s.os.length - 1 ∧ 0 < s.os.length) := by
  obtain ⟨h1, _, h3, _, h5, h6, h7, h8⟩ := less_cells (is_ok h) hk
  exact ⟨right_iff.2 (do_right (is_ok h)).1, h6, h7, h8, h5, h1, h3, (less_orders (is_ok h) hk).1⟩
theorem cell_is {s : St} (hs : right s = true) {y : Nat} (hy : y < s.cs.length) : cell.of_ (s.cs.getD y cz) = (exOf (s.cs.getD y cz), 0) := of_right ((right_iff.1 hs).2.2.2.2.2.2.1.2.1 _ (getD_mem hy)).2
theorem cell_in {s : St} (hs : right s = true) {y : Nat} (hy : y < s.cs.length) : (cell.of_ (s.cs.getD y cz)).2 = 0 := by rw [cell_is hs hy]
theorem less_cov {s : St} {r : Rc} (hs : right s = true) (hk : r.k = 6) (h : (do_ s r).2 = 0) {y : Nat} (hy : y < s.cs.length) : cell.covers (cell.of_ (s.cs.getD y cz)).1 (cell.of_ ((do_ s r).1.cs.getD y cz)).1 = true := by
  have hg := got hk h
  have hy2 : y < (do_ s r).1.cs.length := by omega
  rw [cell_is hs hy, cell_is hg.1 hy2]
  exact ((less_cells (is_ok h) hk).2.1 y _ _ (at_getD hy) (at_getD hy2)).1
theorem open_is {s : St} (hs : right s = true) {y : Nat} (hy : (y : Int) < s.a) : openV s (y : Int) = (openA s y, 0) := by
  unfold openV openA
  rw [if_pos ⟨hs, by omega, hy⟩]
  simp only [Int.toNat_natCast]
theorem open_e {s : St} (hs : right s = true) {y : Nat} (hy : (y : Int) < s.a) : (openV s (y : Int)).2 = 0 := by rw [open_is hs hy]
theorem less_op {s : St} {r : Rc} (hs : right s = true) (hk : r.k = 6) (h : (do_ s r).2 = 0) {y : Nat} (hy : (y : Int) < s.a) : (openV (do_ s r).1 (y : Int)).1 ≤ (openV s (y : Int)).1 := by
  have hg := got hk h
  rw [open_is hs hy, open_is hg.1 (by omega)]
  exact less_open (is_ok h) hk hy
theorem less_od {s : St} {r : Rc} (hk : r.k = 6) (h : (do_ s r).2 = 0) {y : Nat} (hy : y < s.os.length) (hn : ¬ (s.os.getD y oz).i = r.o) : ¬ findI (do_ s r).1.os (s.os.getD y oz).i < 0 ∧ findI (do_ s r).1.os (s.os.getD y oz).i < ((do_ s r).1.os.length : Int) ∧ (do_ s r).1.os.getD (fk (do_ s r).1.os (s.os.getD y oz).i) oz = s.os.getD y oz := by
  obtain ⟨k, hf, hk2⟩ := (less_orders (is_ok h) hk).2 _ (getD_mem hy) hn
  have hl : k < (do_ s r).1.os.length := by
    rcases Nat.lt_or_ge k (do_ s r).1.os.length with g | g
    · exact g
    · rw [List.getElem?_eq_none g] at hk2; cases hk2
  have e : findI (do_ s r).1.os (s.os.getD y oz).i = (k : Int) := by unfold findI; rw [hf]
  unfold fk
  rw [e]
  refine ⟨by omega, by omega, ?_⟩
  rw [Int.toNat_natCast]
  simp [List.getD, hk2]
theorem walk0 (v : Sv) (s : St) (r : Rc)  (w : World) (h : InS w (Lt w.heap.size) v s) (hr : r.fine) : Calls Try.prog 3 #[.agg (stc v s), .agg (rec.rc r)] w fun e w' => e = .returned (.bool true) ∧ Below w.heap.size w w' :=
  have hlen := h.len
  calls_by (fn := Try.f3) (r := .bool true) (t := .c (.bool true) (.cs (short s) (.k (.cs (right s) (.k (.s .z (.cm (Dat (fun w S v => InS w S v (do_ s r).1) (Lt w.heap.size) w) (fun x => .tuple #[.agg (stc x.1.2.2 ((do_ s r).1)), .int .i64 ((do_ s r).2)]) (fun x => [poolF x.1.1 x.1.2.1]) (fun x4 => .s (.cs (decide (s = ((do_ s r).1))) .z .z) (.cs (right ((do_ s r).1)) (.k (.s (.k (.k (.k (.k .z)))) (.k (.e (.int .i64 (s.seq + 1)) (.s (.k (.k (.k .z))) (.k (.e (.int .i64 (s.lsn + 1)) (.s (.k (.k .z)) (.k (.s (.k .z) (.k (.s .z (.l (Nat) (fun x => [(2, undef, some (0, 0)), (3, undef, some (1, 0)), (5, undef, some (2, 0)), (7, .int .i64 (x : Int), none)]) (fun x => []) [0, 1, 2] [] (fun x => [poolF x4.1.1 x4.1.2.1]) (fun x => x ≤ s.cs.length) (fun x => s.cs.length - x) (0 : Nat) (fun y13 => .s (.p (blkA v.A2) (offA v.A2 + y13 * 4) (cell.cc (s.cs.getD y13 cz)) (.c (.tuple #[.agg (cell.xc (cell.of_ (s.cs.getD y13 cz)).1), .int .i64 ((cell.of_ (s.cs.getD y13 cz)).2)]) (.q (blkA x4.1.2.2.A2) (offA x4.1.2.2.A2 + y13 * 4) (cell.cc (((do_ s r).1.cs).getD y13 cz)) (.c (.tuple #[.agg (cell.xc (cell.of_ (((do_ s r).1.cs).getD y13 cz)).1), .int .i64 ((cell.of_ (((do_ s r).1.cs).getD y13 cz)).2)]) (.s (.k (.k .z)) (.k (.s (.k .z) (.k (.cs (cell.covers ((cell.of_ (s.cs.getD y13 cz)).1) ((cell.of_ (((do_ s r).1.cs).getD y13 cz)).1)) (.e (.int .i64 ((y13 + 1 : Nat) : Int)) .z) .z))))))))) (.l (Nat) (fun x => [(2, undef, some (0, 0)), (3, undef, some (1, 0)), (5, undef, some (2, 0)), (12, .int .i64 (x : Int), none)]) (fun x => []) [0, 1, 2] [] (fun x => [poolF x4.1.1 x4.1.2.1]) (fun x => x ≤ s.a.toNat ∧ s.a ≤ 8) (fun x => s.a.toNat - x) (0 : Nat) (fun y20 => .s (.c (.tuple #[.int .i64 ((openV s (y20 : Int)).1), .int .i64 ((openV s (y20 : Int)).2)]) (.c (.tuple #[.int .i64 ((openV ((do_ s r).1) (y20 : Int)).1), .int .i64 ((openV ((do_ s r).1) (y20 : Int)).2)]) (.s (.k (.k .z)) (.k (.s (.k .z) (.k (.s .z (.e (.int .i64 ((y20 + 1 : Nat) : Int)) .z)))))))) (.l (Nat) (fun x => [(2, undef, some (0, 0)), (3, undef, some (1, 0)), (5, undef, some (2, 0)), (17, .int .i64 (x : Int), none)]) (fun x => []) [0, 1, 2] [] (fun x => [poolF x4.1.1 x4.1.2.1]) (fun x => x ≤ s.os.length) (fun x => s.os.length - x) (0 : Nat) (fun y27 => .s (.p (blkA v.A1) (offA v.A1 + y27 * 12) (order.oc (s.os.getD y27 order.oz)) (.c (.int .i64 (findI ((do_ s r).1).os ((s.os.getD y27 order.oz).i))) (.o [] (.s (.k (.s (.k (.k .z)) (.k (.s (.k .z) (.k (.q (blkA x4.1.2.2.A1) (offA x4.1.2.2.A1 + (fk ((do_ s r).1).os ((s.os.getD y27 order.oz).i)) * 12) (order.oc (((do_ s r).1.os).getD (fk ((do_ s r).1).os ((s.os.getD y27 order.oz).i)) order.oz)) (.xs (!decide ((((do_ s r).1.os).getD (fk ((do_ s r).1).os ((s.os.getD y27 order.oz).i)) order.oz) = (s.os.getD y27 order.oz))) .z (.e (.int .i64 ((y27 + 1 : Nat) : Int)) .z)))))))) (.k (.e (.int .i64 ((y27 + 1 : Nat) : Int)) .z)))))) (.s (.k .z) (.k (.e (.int .i64 ((s.os.length : Int) - 1)) (.s .z .z)))))))))))))))))))))) (.k (.k (.k (.k (.k .z)))))))))) (.k .z))) (.k (.k .z)))) (X :=
∀ g0 : Nat, ∀ g1 : Nat, Gives Try.prog w [] 7 #[] (.bool true) ∧ Gives Try.prog w [] 8 #[.agg (stc v s)] (.bool (short s)) ∧ ((short s) = true → Gives Try.prog w [] 9 #[.agg (stc v s)] (.bool (right s)) ∧ ((right s) = true → ((!decide (r.k = 6)) = true → (.bool true : Value) = .bool true) ∧ ((!decide (r.k = 6)) = false → GivesM Try.prog w [] 10 #[.agg (stc v s), .agg (rec.rc r)] (Dat (fun w S v => InS w S v (do_ s r).1) (Lt w.heap.size) w) (fun x => .tuple #[.agg (stc x.1.2.2 ((do_ s r).1)), .int .i64 ((do_ s r).2)]) (fun x => [poolF x.1.1 x.1.2.1]) ∧ ∀ x4 : Dat (fun w S v => InS w S v (do_ s r).1) (Lt w.heap.size) w, ∀ g2 : Nat, ((!decide (((do_ s r).2) = 0)) = true → Gives Try.prog w [poolF x4.1.1 x4.1.2.1] 11 #[.agg (stc v s), .agg (stc x4.1.2.2 ((do_ s r).1))] (.bool (decide (s = ((do_ s r).1)))) ∧ ((decide (s = ((do_ s r).1))) = true → (.bool true : Value) = .bool true) ∧ ((decide (s = ((do_ s r).1))) = false → (.bool false : Value) = .bool true)) ∧ ((!decide (((do_ s r).2) = 0)) = false → Gives Try.prog w [poolF x4.1.1 x4.1.2.1] 9 #[.agg (stc x4.1.2.2 ((do_ s r).1))] (.bool (right ((do_ s r).1))) ∧ ((right ((do_ s r).1)) = true → ((!decide ((do_ s r).1.seq = r.z)) = true → (.bool false : Value) = .bool true) ∧ ((!decide ((do_ s r).1.seq = r.z)) = false → (.int .i64 (IntKind.i64.wrap (s.seq + 1)) : Value) = .int .i64 (s.seq + 1) ∧ ((!decide ((do_ s r).1.seq = (s.seq + 1))) = true → (.bool false : Value) = .bool true) ∧ ((!decide ((do_ s r).1.seq = (s.seq + 1))) = false → (.int .i64 (IntKind.i64.wrap (s.lsn + 1)) : Value) = .int .i64 (s.lsn + 1) ∧ ((!decide ((do_ s r).1.lsn = (s.lsn + 1))) = true → (.bool false : Value) = .bool true) ∧ ((!decide ((do_ s r).1.lsn = (s.lsn + 1))) = false → ((!decide ((do_ s r).1.last = s.last)) = true → (.bool false : Value) = .bool true) ∧ ((!decide ((do_ s r).1.last = s.last)) = false → ((!decide (((do_ s r).1.cs.length : Int) = (s.cs.length : Int))) = true → (.bool false : Value) = .bool true) ∧ ((!decide (((do_ s r).1.cs.length : Int) = (s.cs.length : Int))) = false → Brings w [poolF x4.1.1 x4.1.2.1] [] ∧ ((0 : Nat) ≤ s.cs.length) ∧ (([.pointer (some ⟨g0, 0, none⟩), .pointer (some ⟨g1, 0, none⟩), .pointer (some ⟨g2, 0, none⟩), .int .i64 0] : List Value) = [.pointer (some ⟨g0, 0, none⟩), .pointer (some ⟨g1, 0, none⟩), .pointer (some ⟨g2, 0, none⟩), .int .i64 ((0 : Nat) : Int)] ∧ ([some ⟨g2, 0, (stc x4.1.2.2 ((do_ s r).1)), .own 27⟩, some ⟨g1, 0, (rec.rc r), .own 29⟩, some ⟨g0, 0, (stc v s), .own 27⟩] : List (Option Blk)) = [some ⟨g2, 0, (stc x4.1.2.2 ((do_ s r).1)), .own 27⟩, some ⟨g1, 0, (rec.rc r), .own 29⟩, some ⟨g0, 0, (stc v s), .own 27⟩] ∧ Turns w [poolF x4.1.1 x4.1.2.1] [poolF x4.1.1 x4.1.2.1]) ∧ true = true ∧ ∀ (y13 : Nat), (y13 ≤ s.cs.length) → ∀ τ15 : Nat → Value, ((decide ((y13 : Int) < (s.cs.length : Int))) = true → Yields0 Try.prog w [poolF x4.1.1 x4.1.2.1] (Instr.indexAt 23 (.slice v.A2 s.cs.length v.c2) (.int .i64 (y13 : Int))) (.pointer (some ⟨blkA v.A2, offA v.A2 + y13 * 4, none⟩)) ∧ Reads0 w [] (blkA v.A2) (offA v.A2 + y13 * 4) (cell.cc (s.cs.getD y13 cz)) ∧ Gives Try.prog w [poolF x4.1.1 x4.1.2.1] 12 #[.agg (cell.cc (s.cs.getD y13 cz))] (.tuple #[.agg (cell.xc (cell.of_ (s.cs.getD y13 cz)).1), .int .i64 ((cell.of_ (s.cs.getD y13 cz)).2)]) ∧ ∀ g4 : Nat, Yields0 Try.prog w [poolF x4.1.1 x4.1.2.1] (Instr.indexAt 23 (.slice x4.1.2.2.A2 ((do_ s r).1.cs.length) x4.1.2.2.c2) (.int .i64 (y13 : Int))) (.pointer (some ⟨blkA x4.1.2.2.A2, offA x4.1.2.2.A2 + y13 * 4, none⟩)) ∧ Reads0 w [poolF x4.1.1 x4.1.2.1] (blkA x4.1.2.2.A2) (offA x4.1.2.2.A2 + y13 * 4) (cell.cc (((do_ s r).1.cs).getD y13 cz)) ∧ Gives Try.prog w [poolF x4.1.1 x4.1.2.1] 12 #[.agg (cell.cc (((do_ s r).1.cs).getD y13 cz))] (.tuple #[.agg (cell.xc (cell.of_ (((do_ s r).1.cs).getD y13 cz)).1), .int .i64 ((cell.of_ (((do_ s r).1.cs).getD y13 cz)).2)]) ∧ ∀ g6 : Nat, ((!decide (((cell.of_ (s.cs.getD y13 cz)).2) = 0)) = true → (.bool false : Value) = .bool true) ∧ ((!decide (((cell.of_ (s.cs.getD y13 cz)).2) = 0)) = false → ((!decide (((cell.of_ (((do_ s r).1.cs).getD y13 cz)).2) = 0)) = true → (.bool false : Value) = .bool true) ∧ ((!decide (((cell.of_ (((do_ s r).1.cs).getD y13 cz)).2) = 0)) = false → Gives Try.prog w [poolF x4.1.1 x4.1.2.1] 13 #[.agg (cell.xc (cell.of_ (s.cs.getD y13 cz)).1), .agg (cell.xc (cell.of_ (((do_ s r).1.cs).getD y13 cz)).1)] (.bool (cell.covers ((cell.of_ (s.cs.getD y13 cz)).1) ((cell.of_ (((do_ s r).1.cs).getD y13 cz)).1))) ∧ ((cell.covers ((cell.of_ (s.cs.getD y13 cz)).1) ((cell.of_ (((do_ s r).1.cs).getD y13 cz)).1)) = true → (.int .i64 (IntKind.i64.wrap ((y13 : Int) + 1)) : Value) = .int .i64 ((y13 + 1 : Nat) : Int) ∧ ∃ x' : Nat, (x' ≤ s.cs.length) ∧ (s.cs.length - x' < s.cs.length - y13) ∧ (([.pointer (some ⟨g0, 0, none⟩), .pointer (some ⟨g1, 0, none⟩), .pointer (some ⟨g2, 0, none⟩), .int .i64 ((y13 + 1 : Nat) : Int)] : List Value) = [.pointer (some ⟨g0, 0, none⟩), .pointer (some ⟨g1, 0, none⟩), .pointer (some ⟨g2, 0, none⟩), .int .i64 (x' : Int)] ∧ ([some ⟨g2, 0, (stc x4.1.2.2 ((do_ s r).1)), .own 27⟩, some ⟨g1, 0, (rec.rc r), .own 29⟩, some ⟨g0, 0, (stc v s), .own 27⟩] : List (Option Blk)) = [some ⟨g2, 0, (stc x4.1.2.2 ((do_ s r).1)), .own 27⟩, some ⟨g1, 0, (rec.rc r), .own 29⟩, some ⟨g0, 0, (stc v s), .own 27⟩] ∧ Turns w [poolF x4.1.1 x4.1.2.1] [poolF x4.1.1 x4.1.2.1]) ∧ true = true) ∧ ((cell.covers ((cell.of_ (s.cs.getD y13 cz)).1) ((cell.of_ (((do_ s r).1.cs).getD y13 cz)).1)) = false → (.bool false : Value) = .bool true)))) ∧ ((decide ((y13 : Int) < (s.cs.length : Int))) = false → Brings w [poolF x4.1.1 x4.1.2.1] [] ∧ ((0 : Nat) ≤ s.a.toNat ∧ s.a ≤ 8) ∧ (([.pointer (some ⟨g0, 0, none⟩), .pointer (some ⟨g1, 0, none⟩), .pointer (some ⟨g2, 0, none⟩), .int .i64 0] : List Value) = [.pointer (some ⟨g0, 0, none⟩), .pointer (some ⟨g1, 0, none⟩), .pointer (some ⟨g2, 0, none⟩), .int .i64 ((0 : Nat) : Int)] ∧ ([some ⟨g2, 0, (stc x4.1.2.2 ((do_ s r).1)), .own 27⟩, some ⟨g1, 0, (rec.rc r), .own 29⟩, some ⟨g0, 0, (stc v s), .own 27⟩] : List (Option Blk)) = [some ⟨g2, 0, (stc x4.1.2.2 ((do_ s r).1)), .own 27⟩, some ⟨g1, 0, (rec.rc r), .own 29⟩, some ⟨g0, 0, (stc v s), .own 27⟩] ∧ Turns w [poolF x4.1.1 x4.1.2.1] [poolF x4.1.1 x4.1.2.1]) ∧ true = true ∧ ∀ (y20 : Nat), (y20 ≤ s.a.toNat ∧ s.a ≤ 8) → ∀ τ22 : Nat → Value, ((decide ((y20 : Int) < s.a)) = true → Gives Try.prog w [poolF x4.1.1 x4.1.2.1] 14 #[.agg (stc v s), .int .i64 (y20 : Int)] (.tuple #[.int .i64 ((openV s (y20 : Int)).1), .int .i64 ((openV s (y20 : Int)).2)]) ∧ Gives Try.prog w [poolF x4.1.1 x4.1.2.1] 14 #[.agg (stc x4.1.2.2 ((do_ s r).1)), .int .i64 (y20 : Int)] (.tuple #[.int .i64 ((openV ((do_ s r).1) (y20 : Int)).1), .int .i64 ((openV ((do_ s r).1) (y20 : Int)).2)]) ∧ ((!decide (((openV s (y20 : Int)).2) = 0)) = true → (.bool false : Value) = .bool true) ∧ ((!decide (((openV s (y20 : Int)).2) = 0)) = false → ((!decide (((openV ((do_ s r).1) (y20 : Int)).2) = 0)) = true → (.bool false : Value) = .bool true) ∧ ((!decide (((openV ((do_ s r).1) (y20 : Int)).2) = 0)) = false → ((decide (((openV ((do_ s r).1) (y20 : Int)).1) > ((openV s (y20 : Int)).1))) = true → (.bool false : Value) = .bool true) ∧ ((decide (((openV ((do_ s r).1) (y20 : Int)).1) > ((openV s (y20 : Int)).1))) = false → (.int .i64 (IntKind.i64.wrap ((y20 : Int) + 1)) : Value) = .int .i64 ((y20 + 1 : Nat) : Int) ∧ ∃ x' : Nat, (x' ≤ s.a.toNat ∧ s.a ≤ 8) ∧ (s.a.toNat - x' < s.a.toNat - y20) ∧ (([.pointer (some ⟨g0, 0, none⟩), .pointer (some ⟨g1, 0, none⟩), .pointer (some ⟨g2, 0, none⟩), .int .i64 ((y20 + 1 : Nat) : Int)] : List Value) = [.pointer (some ⟨g0, 0, none⟩), .pointer (some ⟨g1, 0, none⟩), .pointer (some ⟨g2, 0, none⟩), .int .i64 (x' : Int)] ∧ ([some ⟨g2, 0, (stc x4.1.2.2 ((do_ s r).1)), .own 27⟩, some ⟨g1, 0, (rec.rc r), .own 29⟩, some ⟨g0, 0, (stc v s), .own 27⟩] : List (Option Blk)) = [some ⟨g2, 0, (stc x4.1.2.2 ((do_ s r).1)), .own 27⟩, some ⟨g1, 0, (rec.rc r), .own 29⟩, some ⟨g0, 0, (stc v s), .own 27⟩] ∧ Turns w [poolF x4.1.1 x4.1.2.1] [poolF x4.1.1 x4.1.2.1]) ∧ true = true)))) ∧ ((decide ((y20 : Int) < s.a)) = false → Brings w [poolF x4.1.1 x4.1.2.1] [] ∧ ((0 : Nat) ≤ s.os.length) ∧ (([.pointer (some ⟨g0, 0, none⟩), .pointer (some ⟨g1, 0, none⟩), .pointer (some ⟨g2, 0, none⟩), .int .i64 0] : List Value) = [.pointer (some ⟨g0, 0, none⟩), .pointer (some ⟨g1, 0, none⟩), .pointer (some ⟨g2, 0, none⟩), .int .i64 ((0 : Nat) : Int)] ∧ ([some ⟨g2, 0, (stc x4.1.2.2 ((do_ s r).1)), .own 27⟩, some ⟨g1, 0, (rec.rc r), .own 29⟩, some ⟨g0, 0, (stc v s), .own 27⟩] : List (Option Blk)) = [some ⟨g2, 0, (stc x4.1.2.2 ((do_ s r).1)), .own 27⟩, some ⟨g1, 0, (rec.rc r), .own 29⟩, some ⟨g0, 0, (stc v s), .own 27⟩] ∧ Turns w [poolF x4.1.1 x4.1.2.1] [poolF x4.1.1 x4.1.2.1]) ∧ true = true ∧ ∀ (y27 : Nat), (y27 ≤ s.os.length) → ∀ τ29 : Nat → Value, ((decide ((y27 : Int) < (s.os.length : Int))) = true → Yields0 Try.prog w [poolF x4.1.1 x4.1.2.1] (Instr.indexAt 22 (.slice v.A1 s.os.length v.c1) (.int .i64 (y27 : Int))) (.pointer (some ⟨blkA v.A1, offA v.A1 + y27 * 12, none⟩)) ∧ Reads0 w [] (blkA v.A1) (offA v.A1 + y27 * 12) (order.oc (s.os.getD y27 order.oz)) ∧ ∀ g4 : Nat, Gives Try.prog w [poolF x4.1.1 x4.1.2.1] 15 #[.agg (stc x4.1.2.2 ((do_ s r).1)), .int .i64 ((s.os.getD y27 order.oz).i)] (.int .i64 (findI ((do_ s r).1).os ((s.os.getD y27 order.oz).i))) ∧ ((!decide ((s.os.getD y27 order.oz).i = r.o)) = true → ((decide ((findI ((do_ s r).1).os ((s.os.getD y27 order.oz).i)) < 0)) = true → (.bool false : Value) = .bool true) ∧ ((decide ((findI ((do_ s r).1).os ((s.os.getD y27 order.oz).i)) < 0)) = false → ((decide ((findI ((do_ s r).1).os ((s.os.getD y27 order.oz).i)) ≥ ((do_ s r).1.os.length : Int))) = true → (.bool false : Value) = .bool true) ∧ ((decide ((findI ((do_ s r).1).os ((s.os.getD y27 order.oz).i)) ≥ ((do_ s r).1.os.length : Int))) = false → Yields0 Try.prog w [poolF x4.1.1 x4.1.2.1] (Instr.indexAt 22 (.slice x4.1.2.2.A1 ((do_ s r).1.os.length) x4.1.2.2.c1) (.int .i64 (findI ((do_ s r).1).os ((s.os.getD y27 order.oz).i)))) (.pointer (some ⟨blkA x4.1.2.2.A1, offA x4.1.2.2.A1 + (fk ((do_ s r).1).os ((s.os.getD y27 order.oz).i)) * 12, none⟩)) ∧ Reads0 w [poolF x4.1.1 x4.1.2.1] (blkA x4.1.2.2.A1) (offA x4.1.2.2.A1 + (fk ((do_ s r).1).os ((s.os.getD y27 order.oz).i)) * 12) (order.oc (((do_ s r).1.os).getD (fk ((do_ s r).1).os ((s.os.getD y27 order.oz).i)) order.oz)) ∧ Yields0 Try.prog w [poolF x4.1.1 x4.1.2.1] (do eqGuard BinOp.neq 46 (.tmp 190) (.tmp 191) (.agg (order.oc (((do_ s r).1.os).getD (fk ((do_ s r).1).os ((s.os.getD y27 order.oz).i)) order.oz))) (.agg (order.oc (s.os.getD y27 order.oz))); Go.binOp BinOp.neq 46 (.agg (order.oc (((do_ s r).1.os).getD (fk ((do_ s r).1).os ((s.os.getD y27 order.oz).i)) order.oz))) (.agg (order.oc (s.os.getD y27 order.oz)))) (.bool (!decide ((((do_ s r).1.os).getD (fk ((do_ s r).1).os ((s.os.getD y27 order.oz).i)) order.oz) = (s.os.getD y27 order.oz)))) ∧ ((!decide ((((do_ s r).1.os).getD (fk ((do_ s r).1).os ((s.os.getD y27 order.oz).i)) order.oz) = (s.os.getD y27 order.oz))) = true → (.bool false : Value) = .bool true) ∧ ((!decide ((((do_ s r).1.os).getD (fk ((do_ s r).1).os ((s.os.getD y27 order.oz).i)) order.oz) = (s.os.getD y27 order.oz))) = false → (.int .i64 (IntKind.i64.wrap ((y27 : Int) + 1)) : Value) = .int .i64 ((y27 + 1 : Nat) : Int) ∧ ∃ x' : Nat, (x' ≤ s.os.length) ∧ (s.os.length - x' < s.os.length - y27) ∧ (([.pointer (some ⟨g0, 0, none⟩), .pointer (some ⟨g1, 0, none⟩), .pointer (some ⟨g2, 0, none⟩), .int .i64 ((y27 + 1 : Nat) : Int)] : List Value) = [.pointer (some ⟨g0, 0, none⟩), .pointer (some ⟨g1, 0, none⟩), .pointer (some ⟨g2, 0, none⟩), .int .i64 (x' : Int)] ∧ ([some ⟨g2, 0, (stc x4.1.2.2 ((do_ s r).1)), .own 27⟩, some ⟨g1, 0, (rec.rc r), .own 29⟩, some ⟨g0, 0, (stc v s), .own 27⟩] : List (Option Blk)) = [some ⟨g2, 0, (stc x4.1.2.2 ((do_ s r).1)), .own 27⟩, some ⟨g1, 0, (rec.rc r), .own 29⟩, some ⟨g0, 0, (stc v s), .own 27⟩] ∧ Turns w [poolF x4.1.1 x4.1.2.1] [poolF x4.1.1 x4.1.2.1]) ∧ true = true)))) ∧ ((!decide ((s.os.getD y27 order.oz).i = r.o)) = false → (.int .i64 (IntKind.i64.wrap ((y27 : Int) + 1)) : Value) = .int .i64 ((y27 + 1 : Nat) : Int) ∧ ∃ x' : Nat, (x' ≤ s.os.length) ∧ (s.os.length - x' < s.os.length - y27) ∧ (([.pointer (some ⟨g0, 0, none⟩), .pointer (some ⟨g1, 0, none⟩), .pointer (some ⟨g2, 0, none⟩), .int .i64 ((y27 + 1 : Nat) : Int)] : List Value) = [.pointer (some ⟨g0, 0, none⟩), .pointer (some ⟨g1, 0, none⟩), .pointer (some ⟨g2, 0, none⟩), .int .i64 (x' : Int)] ∧ ([some ⟨g2, 0, (stc x4.1.2.2 ((do_ s r).1)), .own 27⟩, some ⟨g1, 0, (rec.rc r), .own 29⟩, some ⟨g0, 0, (stc v s), .own 27⟩] : List (Option Blk)) = [some ⟨g2, 0, (stc x4.1.2.2 ((do_ s r).1)), .own 27⟩, some ⟨g1, 0, (rec.rc r), .own 29⟩, some ⟨g0, 0, (stc v s), .own 27⟩] ∧ Turns w [poolF x4.1.1 x4.1.2.1] [poolF x4.1.1 x4.1.2.1]) ∧ true = true)) ∧ ((decide ((y27 : Int) < (s.os.length : Int))) = false → ((decide (((do_ s r).1.os.length : Int) = (s.os.length : Int))) = true → (.bool true : Value) = .bool true) ∧ ((decide (((do_ s r).1.os.length : Int) = (s.os.length : Int))) = false → (.int .i64 (IntKind.i64.wrap ((s.os.length : Int) - 1)) : Value) = .int .i64 ((s.os.length : Int) - 1) ∧ ((decide (((do_ s r).1.os.length : Int) = ((s.os.length : Int) - 1))) = true → (.bool true : Value) = .bool true) ∧ ((decide (((do_ s r).1.os.length : Int) = ((s.os.length : Int) - 1))) = false → (.bool false : Value) = .bool true))))))))))) ∧ ((right ((do_ s r).1)) = false → (.bool false : Value) = .bool true)))) ∧ ((right s) = false → (.bool true : Value) = .bool true)) ∧ ((short s) = false → (.bool true : Value) = .bool true)) Try.func3 (by kernel_rfl)
  (fun g0 => fun g1 => ⟨gives awake_any, ⟨i_short, fun h1 => ⟨i_right (all_lt h), fun h2 => ⟨fun h3 => have h3 : ¬ r.k = 6 := (by simpa using h3)
 rfl,
 fun h3 => have h3 : r.k = 6 := (by simpa using h3)
⟨i_do (fixed_low (fun k hk => hk)) (fun w hw _ => h.below hw) hr, fun x4 => fun g2 => ⟨fun h5 => have h5 : ¬ ((do_ s r).2) = 0 := (by simpa using h5)
⟨i_same (all_lt h) (dat_lt x4 (fixed_low (fun k hk => hk)) (i := 0) rfl), fun h6 => rfl,
 fun h6 => (by exact absurd (same_no h5) (of_decide_eq_false h6))⟩,
 fun h5 => have h5 : ((do_ s r).2) = 0 := (by simpa using h5)
⟨i_right (dat_lt x4 (fixed_low (fun k hk => hk)) (i := 0) rfl), fun h7 => ⟨fun h8 => have h8 : ¬ (do_ s r).1.seq = r.z := (by simpa using h8)
(by have h9 := (got h3 h5).2; exfalso; omega),
 fun h8 => have h8 : (do_ s r).1.seq = r.z := (by simpa using h8)
⟨wrap_is rfl (by have := (right_iff.1 h2).2.2.1; omega) (by have := (right_iff.1 h2).2.2.1; omega), ⟨fun h9 => have h9 : ¬ (do_ s r).1.seq = (s.seq + 1) := (by simpa using h9)
(by have h9 := (got h3 h5).2; exfalso; omega),
 fun h9 => have h9 : (do_ s r).1.seq = (s.seq + 1) := (by simpa using h9)
⟨wrap_is rfl (by have := (right_iff.1 h2).2.2.1; omega) (by have := (right_iff.1 h2).2.2.1; omega), ⟨fun h10 => have h10 : ¬ (do_ s r).1.lsn = (s.lsn + 1) := (by simpa using h10)
(by have h9 := (got h3 h5).2; exfalso; omega),
 fun h10 => have h10 : (do_ s r).1.lsn = (s.lsn + 1) := (by simpa using h10)
⟨fun h11 => have h11 : ¬ (do_ s r).1.last = s.last := (by simpa using h11)
(by have h9 := (got h3 h5).2; exfalso; omega),
 fun h11 => have h11 : (do_ s r).1.last = s.last := (by simpa using h11)
⟨fun h12 => have h12 : ¬ ((do_ s r).1.cs.length : Int) = (s.cs.length : Int) := (by simpa using h12)
(by have h9 := (got h3 h5).2; exfalso; omega),
 fun h12 => have h12 : ((do_ s r).1.cs.length : Int) = (s.cs.length : Int) := (by simpa using h12)
⟨(fun w _ _ => news_nil), (Nat.zero_le _), ⟨rfl, rfl, (turns_sub (.cons_cons _ (List.nil_sublist _)))⟩, rfl, fun y13 I14 τ15 => ⟨fun h16 => have h16 : (y13 : Int) < (s.cs.length : Int) := (by simpa using h16)
⟨(low_index Try.underlying23 info_cell cell_cells (Nat.le_refl _) h.c rfl (by omega)), (low_reads cell_cells (Nat.le_refl _) h.c (at_getD (by omega))), ⟨i_of (fine_ce h.c _ (getD_mem (by omega))), fun g4 => ⟨(el_index Try.underlying23 info_cell (fun w hw ha => ⟨_, (dat_lt x4 (fixed_low (fun k hk => hk)) (i := 0) rfl w hw ha).c⟩) rfl (by omega)), (el_reads cell_cells (fun w hw ha => ⟨_, (dat_lt x4 (fixed_low (fun k hk => hk)) (i := 0) rfl w hw ha).c⟩) (at_getD (by omega))), ⟨i_of (fine_ce x4.2.1.c _ (getD_mem (by omega))), fun g6 => ⟨fun h17 => have h17 : ¬ ((cell.of_ (s.cs.getD y13 cz)).2) = 0 := (by simpa using h17)
(by exact absurd (cell_in h2 (by omega)) h17),
 fun h17 => have h17 : ((cell.of_ (s.cs.getD y13 cz)).2) = 0 := (by simpa using h17)
⟨fun h18 => have h18 : ¬ ((cell.of_ (((do_ s r).1.cs).getD y13 cz)).2) = 0 := (by simpa using h18)
(by exact absurd (cell_in (got h3 h5).1 (by omega)) h18),
 fun h18 => have h18 : ((cell.of_ (((do_ s r).1.cs).getD y13 cz)).2) = 0 := (by simpa using h18)
⟨i_covers, fun h19 => ⟨wrap_is (by omega) (by omega) (by omega), ⟨((y13 + 1) : Nat), (by omega), (by omega), ⟨rfl, rfl, (turns_sub (.cons_cons _ (List.nil_sublist _)))⟩, rfl⟩⟩,
 fun h19 => (by exact absurd (less_cov h2 h3 h5 (y := y13) (by omega)) (by rw [h19]; decide))⟩⟩⟩⟩⟩⟩⟩,
 fun h16 => have h16 : ¬ (y13 : Int) < (s.cs.length : Int) := (by simpa using h16)
⟨(fun w _ _ => news_nil), ⟨Nat.zero_le _, (right_iff.1 h2).1.2.1⟩, ⟨rfl, rfl, (turns_sub (.cons_cons _ (List.nil_sublist _)))⟩, rfl, fun y20 I21 τ22 => ⟨fun h23 => have h23 : (y20 : Int) < s.a := (by simpa using h23)
⟨i_open (all_lt h) (by have h9 := (right_iff.1 h2).1; unfold frame.inR; omega), ⟨i_open (dat_lt x4 (fixed_low (fun k hk => hk)) (i := 0) rfl) (by have h9 := (right_iff.1 h2).1; unfold frame.inR; omega), ⟨fun h24 => have h24 : ¬ ((openV s (y20 : Int)).2) = 0 := (by simpa using h24)
(by exact absurd (open_e h2 (by omega)) h24),
 fun h24 => have h24 : ((openV s (y20 : Int)).2) = 0 := (by simpa using h24)
⟨fun h25 => have h25 : ¬ ((openV ((do_ s r).1) (y20 : Int)).2) = 0 := (by simpa using h25)
(by exact absurd (open_e (got h3 h5).1 (by have := (got h3 h5).2; omega)) h25),
 fun h25 => have h25 : ((openV ((do_ s r).1) (y20 : Int)).2) = 0 := (by simpa using h25)
⟨fun h26 => have h26 : ((openV s (y20 : Int)).1) < ((openV ((do_ s r).1) (y20 : Int)).1) := (by simpa using h26)
(by have h9 := less_op h2 h3 h5 (y := y20) (by omega); exfalso; omega),
 fun h26 => have h26 : ¬ ((openV s (y20 : Int)).1) < ((openV ((do_ s r).1) (y20 : Int)).1) := (by simpa using h26)
⟨wrap_is (by omega) (by omega) (by omega), ⟨((y20 + 1) : Nat), (by omega), (by omega), ⟨rfl, rfl, (turns_sub (.cons_cons _ (List.nil_sublist _)))⟩, rfl⟩⟩⟩⟩⟩⟩⟩,
 fun h23 => have h23 : ¬ (y20 : Int) < s.a := (by simpa using h23)
⟨(fun w _ _ => news_nil), (Nat.zero_le _), ⟨rfl, rfl, (turns_sub (.cons_cons _ (List.nil_sublist _)))⟩, rfl, fun y27 I28 τ29 => ⟨fun h30 => have h30 : (y27 : Int) < (s.os.length : Int) := (by simpa using h30)
⟨(low_index Try.underlying22 info_order order_cells (Nat.le_refl _) h.o rfl (by omega)), (low_reads order_cells (Nat.le_refl _) h.o (at_getD (by omega))), fun g4 => ⟨i_find (dat_lt x4 (fixed_low (fun k hk => hk)) (i := 0) rfl), ⟨fun h31 => have h31 : ¬ (s.os.getD y27 order.oz).i = r.o := (by simpa using h31)
⟨fun h32 => have h32 : (findI ((do_ s r).1).os ((s.os.getD y27 order.oz).i)) < 0 := (by simpa using h32)
(by have h8 := (got h3 h5).2; have h9 := less_od (s := s) (r := r) h3 h5 (y := y27) (by omega) (by first | assumption | omega); first | (exfalso; omega) | (exfalso; simp_all) ),
 fun h32 => have h32 : ¬ (findI ((do_ s r).1).os ((s.os.getD y27 order.oz).i)) < 0 := (by simpa using h32)
⟨fun h33 => have h33 : ¬ (findI ((do_ s r).1).os ((s.os.getD y27 order.oz).i)) < ((do_ s r).1.os.length : Int) := (by simpa using h33)
(by have h8 := (got h3 h5).2; have h9 := less_od (s := s) (r := r) h3 h5 (y := y27) (by omega) (by first | assumption | omega); first | (exfalso; omega) | (exfalso; simp_all) ),
 fun h33 => have h33 : (findI ((do_ s r).1).os ((s.os.getD y27 order.oz).i)) < ((do_ s r).1.os.length : Int) := (by simpa using h33)
⟨(index_at (find_lt h32).1 (el_index Try.underlying22 info_order (fun w hw ha => ⟨_, (dat_lt x4 (fixed_low (fun k hk => hk)) (i := 0) rfl w hw ha).o⟩) rfl (by have h9 := (find_lt h32).2.1; omega))), (el_reads order_cells (fun w hw ha => ⟨_, (dat_lt x4 (fixed_low (fun k hk => hk)) (i := 0) rfl w hw ha).o⟩) (at_getD (by have h9 := (find_lt h32).2.1; omega))), ⟨neq_agg (by kernel_rfl) (order.run_eq12 (((do_ s r).1.os).getD (fk ((do_ s r).1).os ((s.os.getD y27 order.oz).i)) order.oz) (s.os.getD y27 order.oz) (fine_or x4.2.1.o _ (getD_mem (by have h9 := (find_lt h32).2.1; omega))) (fine_or h.o _ (getD_mem (by omega)))) _ _, fun h34 => (by have h8 := (got h3 h5).2; have h9 := less_od (s := s) (r := r) h3 h5 (y := y27) (by omega) (by first | assumption | omega); first | (exfalso; omega) | (exfalso; simp_all) ),
 fun h34 => ⟨wrap_is (by omega) (by omega) (by omega), ⟨((y27 + 1) : Nat), (by omega), (by omega), ⟨rfl, rfl, (turns_sub (.cons_cons _ (List.nil_sublist _)))⟩, rfl⟩⟩⟩⟩⟩⟩,
 fun h31 => have h31 : (s.os.getD y27 order.oz).i = r.o := (by simpa using h31)
⟨wrap_is (by omega) (by omega) (by omega), ⟨((y27 + 1) : Nat), (by omega), (by omega), ⟨rfl, rfl, (turns_sub (.cons_cons _ (List.nil_sublist _)))⟩, rfl⟩⟩⟩⟩⟩,
 fun h30 => have h30 : ¬ (y27 : Int) < (s.os.length : Int) := (by simpa using h30)
⟨fun h35 => have h35 : ((do_ s r).1.os.length : Int) = (s.os.length : Int) := (by simpa using h35)
 rfl,
 fun h35 => have h35 : ¬ ((do_ s r).1.os.length : Int) = (s.os.length : Int) := (by simpa using h35)
⟨wrap_is rfl (by omega) (by omega), ⟨fun h36 => have h36 : ((do_ s r).1.os.length : Int) = ((s.os.length : Int) - 1) := (by simpa using h36)
 rfl,
 fun h36 => have h36 : ¬ ((do_ s r).1.os.length : Int) = ((s.os.length : Int) - 1) := (by simpa using h36)
(by have h8 := (got h3 h5).2; have h9 := less_od (s := s) (r := r) h3 h5 (y := y27) (by omega) (by first | assumption | omega); first | (exfalso; omega) | (exfalso; simp_all) )⟩⟩⟩⟩⟩⟩⟩⟩⟩⟩⟩⟩⟩⟩⟩⟩,
 fun h7 => (by exact absurd (got h3 h5).1 (by rw [h7]; decide))⟩⟩⟩⟩,
 fun h2 => rfl⟩,
 fun h1 => rfl⟩⟩)
-- VX ENDS
theorem walk (cs0 : Array Value) (x0 : StateD) (cs1 : Array Value) (x1 : RecD) (w : World) (w0 : rdState w (Lt w.heap.size) cs0.toList x0) (w1 : rdRec w (Lt w.heap.size) cs1.toList x1) :
    Calls Try.prog 3 #[.agg cs0, .agg cs1] w fun e w' => e = .returned (.bool true) ∧ Below w.heap.size w w' := by
  obtain ⟨v0, e0, h0⟩ := w0
  obtain rfl : cs0 = stc v0 x0 := by apply Array.toList_inj.1; exact e0
  obtain rfl : cs1 = rec.rc x1 := by apply Array.toList_inj.1; exact w1.1
  exact walk0 v0 x0 x1 w h0 w1.2

set_option maxRecDepth 100000 in
theorem lifted (os : Os) (started : os.Started) (H : Type) (enc : TypeId × Value → H) :
    ReturnsInHanded {} Try.checked os 3 .any (Rows.bookLessSpec.pre6 enc Try.prog Try.f3 Rows.bookLessRow.domain false) (Rows.bookLessSpec.post enc Try.prog Try.f3 false true false false) := by
  refine returnsInHanded_of_change (C := Try.checked) own started (by kernel_rfl) Try.func3
    (ChangeSpec.witness6 (enc := enc) (C := Try.checked) false ⟨#[], #[.agg #[.int .i64 0, .int .i64 0, .slice none 0 0, .slice none 0 0, .slice none 0 0, .slice none 0 0, .bool false, .int .i64 0, .int .i64 0, .int .i64 0], .agg #[.int .i64 0, .int .i64 0, .int .i64 0, .int .i64 0, .int .i64 0, .int .i64 0, .int .i64 0, .int .i64 0, .int .i64 0, .int .i64 0, .bool false, .int .i64 0, .int .i64 0]], []⟩ 8 (by kernel_rfl) (by kernel_rfl) (by kernel_rfl) (by kernel_rfl)) ?_
  intro W base args ds gs before hval0 hW hcnd _
  have hval : ∀ (j : Nat) t v, Try.f3.params[j]? = some t → args[j]? = some v → Value.okWide Try.prog W .any base t v := hval0
  have hW' := hW
  obtain ⟨p, q, hA0, hV, rfl, hfz, hnd⟩ := hW
  have hA : DataW.TrodAll enc Try.prog W 0 (fun _ => true) true Try.f3.params.toList args.toList ds p := hA0
  rw [Try.params3] at hA hval
  obtain ⟨v0, vs0, d0, ds0, p0_, q0, hargs, rfl, rfl, h0, r0⟩ := trodAll_cons hA
  obtain ⟨v1, vs1, d1, ds1, p1_, q1, rfl, rfl, rfl, h1, r1⟩ := trodAll_cons r0
  obtain ⟨rfl, rfl, rfl⟩ := trodAll_nil r1
  obtain rfl : args = #[v0, v1] := by cases args; simp_all
  obtain ⟨rfl, rfl⟩ := trodVars_none hV
  obtain ⟨cs0, rfl, hsz0⟩ := okWide_struct Try.underlying27 (hval 0 27 v0 rfl rfl)
  have k0 := h0
  have lt0 : ∀ x ∈ p0_, x.block < W.heap.size := by obtain ⟨m, hm⟩ := k0; exact DataW.trod_lt m _ _ _ hm
  obtain ⟨x0, w0⟩ := of_arg of_state k0
  obtain ⟨cs1, rfl, hsz1⟩ := okWide_struct Try.underlying29 (hval 1 29 v1 rfl rfl)
  have k1 := h1
  have lt1 : ∀ x ∈ p1_, x.block < W.heap.size := by obtain ⟨m, hm⟩ := k1; exact DataW.trod_lt m _ _ _ hm
  obtain ⟨x1, w1⟩ := of_arg of_rec k1
  clear hA0 hval0
  refine (walk cs0 x0 cs1 x1 W w0 w1).mono fun e W' ⟨he, bel⟩ => ?_
  subst he
  exact ⟨_, rfl, _, _, _, [], _, [], hW', trodAll_mk1 (shut_bool Try.underlying4 _), (trodAll_cons_mk (Below.trod laidOut (by kernel_rfl) (of_decide_eq_true (by kernel_rfl)) k0 bel lt0) (trodAll_cons_mk (Below.trod laidOut (by kernel_rfl) (of_decide_eq_true (by kernel_rfl)) k1 bel lt1) trodAll_mk0)), rfl, bel.frame _, fun h => by cases h⟩

theorem over : Rows.bookLessRow.holds Try.pinned (OpenSpec.ofChange Rows.bookLessSpec) :=
  OpenClaim.holds_of_wide 3 Try.f3 rfl rfl rfl rfl rfl rfl rfl ⟨rfl, rfl, rfl, rfl, rfl⟩ rfl rfl rfl rfl rfl (by kernel_rfl) Try.func3 (by kernel_rfl)
    (of_decide_eq_true (by kernel_rfl)) (by unfold Func.isWrapper; first | (rw [if_pos (by decide +kernel)]; kernel_rfl) | (rw [if_neg (by decide +kernel)]; exact ⟨rfl, rfl⟩))
    (fun os started H enc _ => lifted os started H enc)

theorem proved : Rows.BookLessSaid := over
#print axioms proved
end Go.Proofs.Ytaagpldanbjacaa.bookLess
