/-
  PROVED: the law BookBounds answers true at every input, and leaves what it was given as it was.
  CONDITIONS: none.
-/
import Derived.Test.YtaagpldanbjacaaRows
import Derived.WalkKit
import Derived.ProofKit
import Derived.OpenShut
import Derived.ShutString
import Derived.ChangeOld
import Derived.Below
import Derived.Test.YtaagpldanbjacaaMa04
import Derived.Test.YtaagpldanbjacaaMa52
import Derived.Test.YtaagpldanbjacaaMa53
import Derived.Test.YtaagpldanbjacaaMa37
namespace Go.Proofs.Ytaagpldanbjacaa.bookBounds
open Go.ChangeShapes Go.WideShapes Go.ChangeAt Go.RowKit
open Go.ChangeMaps (open_string shut_string)
open Go.Proofs.Ytaagpldanbjacaa Go.Proofs.Ytaagpldanbjacaa.book
open Go.Proofs.Ytaagpldanbjacaa.order (Or open_ worth oz)
open Go.Proofs.Ytaagpldanbjacaa.cell (Ce Ex)
open Go.Proofs.Ytaagpldanbjacaa.rec (Rc)
set_option linter.unusedVariables false

theorem own : ownKnob Try.prog.godebug = none := by kernel_rfl
theorem laidOut : laidOutB Try.prog = true := by kernel_rfl

-- VX BEGINS
def bv (v u : Sv) : Sv := { u with A3 := v.A3, c3 := v.c3, A4 := v.A4, c4 := v.c4 }
def bt (s t : St) : St := { t with ls := s.ls, ps := s.ps, lsn := s.lsn }
theorem in_b {w : World} {S : Nat → Prop} {v u : Sv} {s t : St} (h : InS w S v s) (g : InS w S u t) : InS w S (bv v u) (bt s t) := ⟨g.o, g.c, h.l, h.k, g.no, g.nc, h.nl, h.nk, ⟨g.fine.1, g.fine.2.1, g.fine.2.2.1, g.fine.2.2.2.1, h.fine.2.2.2.2⟩⟩
theorem bound_came {s : St} {b : Rc} (hk : b.k = 4) (h : (do_ s b).2 = 0) : ¬ Wrong s b ∧ ((do_ s b).1 = { s with ps := s.ps.set b.a.toNat b.n, lsn := s.lsn + 1 } ∨ (do_ s b).1 = { s with ls := s.ls.set (place s.y b.a b.y) ⟨b.l, b.s, b.n⟩, lsn := s.lsn + 1 }) := by
  obtain ⟨hw, u, hc, e⟩ := do_ok (s := s) (r := b) (t := (do_ s b).1) (by rw [← h])
  refine ⟨hw, ?_⟩
  cases hc with
  | cap k4 hy => exact .inl e
  | bound k4 hy => exact .inr e
  | new k1 => omega
  | replace k1 => omega
  | cancel k1 => omega
  | kill k1 => omega
  | past k1 => omega
  | told k1 => omega
theorem bound_err {s : St} {b : Rc} (hs : right s = true) (hk : b.k = 4) (h : ¬ (do_ s b).2 = 0) : (do_ s b).2 = 1 := by
  unfold do_ at *
  split
  · rfl
  rename_i hw
  rw [if_neg hw] at h
  exfalso
  apply h
  have e : (doing s b).2 = 0 := by
    unfold doing
    rw [if_neg (by omega), if_neg (by omega), if_neg (by omega), if_pos hk]
    split <;> rfl
  rw [if_neg (by rw [e]; simp)]
theorem bound_is {s : St} {b : Rc} (hk : b.k = 4) (h : (do_ s b).2 = 0) : s = bt s (do_ s b).1 ∧ (do_ s b).1.ls.length = s.ls.length ∧ (do_ s b).1.ps.length = s.ps.length := by
  obtain ⟨_, e | e⟩ := bound_came hk h <;> rw [e] <;> simp [bt]
theorem bound_may {s : St} {b r : Rc} (hk : b.k = 4) (hl : s.lsn ≤ 1000) (h : (do_ s b).2 = 0) (hs : right s = true) (he : s = bt s (do_ s b).1) (hn : (do_ s b).1.ls.length = s.ls.length ∧ (do_ s b).1.ps.length = s.ps.length) (h1 : ∀ j, j < s.ls.length → limit.lowers (s.ls.getD j xz) ((do_ s b).1.ls.getD j xz) = false) (h2 : ∀ j, j < s.ps.length → s.ps.getD j 0 ≤ (do_ s b).1.ps.getD j 0) (hm : (do_ s r).2 = 0) : (do_ (do_ s b).1 r).2 = 0 := by
  obtain ⟨hr, hlsn⟩ := do_right (s := s) (r := b) (t := (do_ s b).1) (by rw [← h])
  refine higher_do (s := s) ⟨?_, ?_, ?_, ?_, ?_, ?_, ?_, fun i => ?_, fun i => ?_⟩ hr (by rw [hlsn]; omega) hm
  · exact (congrArg St.a he).symm
  · exact (congrArg St.y he).symm
  · exact (congrArg St.os he).symm
  · exact (congrArg St.cs he).symm
  · exact (congrArg St.k he).symm
  · exact (congrArg St.last he).symm
  · exact (congrArg St.seq he).symm
  · rcases Nat.lt_or_ge i s.ls.length with hi | hi
    · exact h1 i hi
    · have e1 : s.ls.getD i xz = xz := by simp [List.getD, List.getElem?_eq_none hi]
      have e2 : (do_ s b).1.ls.getD i xz = xz := by simp [List.getD, List.getElem?_eq_none (show (do_ s b).1.ls.length ≤ i by omega)]
      rw [e1, e2]; rfl
  · rcases Nat.lt_or_ge i s.ps.length with hi | hi
    · exact h2 i hi
    · have e1 : s.ps.getD i 0 = 0 := by simp [List.getD, List.getElem?_eq_none hi]
      have e2 : (do_ s b).1.ps.getD i 0 = 0 := by simp [List.getD, List.getElem?_eq_none (show (do_ s b).1.ps.length ≤ i by omega)]
      rw [e1, e2]; exact Int.le_refl _
theorem walk0 (v : Sv) (s : St) (b r : Rc)  (w : World) (h : InS w (Lt w.heap.size) v s) (hb : b.fine) (hr : r.fine) : Calls Try.prog 6 #[.agg (stc v s), .agg (rec.rc b), .agg (rec.rc r)] w fun e w' => e = .returned (.bool true) ∧ Below w.heap.size w w' :=
  have hlen := h.len
  calls_by (fn := Try.f6) (r := .bool true) (t := .c (.bool true) (.cs (short s) (.k (.cs (right s) (.k (.s (.k .z) (.k (.s .z (.cm (Dat (fun w S v => InS w S v (do_ s b).1) (Lt w.heap.size) w) (fun x => .tuple #[.agg (stc x.1.2.2 ((do_ s b).1)), .int .i64 ((do_ s b).2)]) (fun x => [poolF x.1.1 x.1.2.1]) (fun x5 => .s (.s .z .z) (.o [4] (.cs (decide (s = (bt s ((do_ s b).1)))) (.k (.s (.k .z) (.k (.s .z (.l (Bool × Nat) (fun x => [(3, undef, some (0, 0)), (5, undef, some (2, 0)), (7, undef, some (3, 0)), (10, .bool x.1, none), (11, .int .i64 (x.2 : Int), none)]) (fun x => []) [0, 2, 3] [] (fun x => [poolF x5.1.1 x5.1.2.1]) (fun x => x.2 ≤ s.ls.length ∧ (x.1 = false → ∀ j, j < x.2 → limit.lowers (s.ls.getD j xz) (((do_ s b).1).ls.getD j xz) = false)) (fun x => s.ls.length - x.2) ((false, 0) : Bool × Nat) (fun y11 => .s (.o [] (.s (.k (.e (.int .i64 ((y11.2 + 1 : Nat) : Int)) .z)) (.k (.p (blkA v.A3) (offA v.A3 + y11.2 * 3) (cell.xc (s.ls.getD y11.2 xz)) (.q (blkA x5.1.2.2.A3) (offA x5.1.2.2.A3 + y11.2 * 3) (cell.xc (((do_ s b).1.ls).getD y11.2 xz)) (.cs (limit.lowers (s.ls.getD y11.2 xz) (((do_ s b).1.ls).getD y11.2 xz)) (.e (.int .i64 ((y11.2 + 1 : Nat) : Int)) .z) (.e (.int .i64 ((y11.2 + 1 : Nat) : Int)) .z))))))) (.l (Bool × Nat) (fun x => [(3, undef, some (0, 0)), (5, undef, some (2, 0)), (7, undef, some (3, 0)), (10, .bool x.1, none), (12, .int .i64 (x.2 : Int), none)]) (fun x => []) [0, 2, 3] [] (fun x => [poolF x5.1.1 x5.1.2.1]) (fun x => x.2 ≤ s.ps.length ∧ (x.1 = false → (∀ j, j < s.ls.length → limit.lowers (s.ls.getD j xz) (((do_ s b).1).ls.getD j xz) = false) ∧ ∀ j, j < x.2 → s.ps.getD j 0 ≤ ((do_ s b).1).ps.getD j 0)) (fun x => s.ps.length - x.2) ((y11.1, 0) : Bool × Nat) (fun y17 => .s (.o [] (.s (.k (.e (.int .i64 ((y17.2 + 1 : Nat) : Int)) .z)) (.k (.q (blkA x5.1.2.2.A4) (offA x5.1.2.2.A4 + y17.2 * 1) #[.int .i64 (((do_ s b).1.ps).getD y17.2 0)] (.p (blkA v.A4) (offA v.A4 + y17.2 * 1) #[.int .i64 (s.ps.getD y17.2 0)] (.s (.e (.int .i64 ((y17.2 + 1 : Nat) : Int)) .z) (.e (.int .i64 ((y17.2 + 1 : Nat) : Int)) .z))))))) (.s (.k (.k .z)) (.k (.c (.int .i64 ((do_ s r).2)) (.s (.k .z) (.k (.c (.int .i64 ((do_ ((do_ s b).1) r).2)) (.s .z .z))))))))))))))) (.k (.k .z)))))))))) (.k (.k .z)))) (.k (.k (.k .z))))) (X :=
∀ g0 : Nat, ∀ g1 : Nat, ∀ g2 : Nat, Gives Try.prog w [] 7 #[] (.bool true) ∧ Gives Try.prog w [] 8 #[.agg (stc v s)] (.bool (short s)) ∧ ((short s) = true → Gives Try.prog w [] 9 #[.agg (stc v s)] (.bool (right s)) ∧ ((right s) = true → ((!decide (b.k = 4)) = true → (.bool true : Value) = .bool true) ∧ ((!decide (b.k = 4)) = false → ((decide (s.lsn > 1000)) = true → (.bool true : Value) = .bool true) ∧ ((decide (s.lsn > 1000)) = false → GivesM Try.prog w [] 10 #[.agg (stc v s), .agg (rec.rc b)] (Dat (fun w S v => InS w S v (do_ s b).1) (Lt w.heap.size) w) (fun x => .tuple #[.agg (stc x.1.2.2 ((do_ s b).1)), .int .i64 ((do_ s b).2)]) (fun x => [poolF x.1.1 x.1.2.1]) ∧ ∀ x5 : Dat (fun w S v => InS w S v (do_ s b).1) (Lt w.heap.size) w, ∀ g3 : Nat, ((!decide (((do_ s b).2) = 0)) = true → ((decide (((do_ s b).2) = 1)) = true → (.bool true : Value) = .bool true) ∧ ((decide (((do_ s b).2) = 1)) = false → (.bool false : Value) = .bool true)) ∧ ((!decide (((do_ s b).2) = 0)) = false → ∀ g4 : Nat, Gives Try.prog w [poolF x5.1.1 x5.1.2.1] 11 #[.agg (stc v s), .agg (stc (bv v x5.1.2.2) (bt s ((do_ s b).1)))] (.bool (decide (s = (bt s ((do_ s b).1))))) ∧ ((decide (s = (bt s ((do_ s b).1)))) = true → ((!decide (((do_ s b).1.ls.length : Int) = (s.ls.length : Int))) = true → (.bool false : Value) = .bool true) ∧ ((!decide (((do_ s b).1.ls.length : Int) = (s.ls.length : Int))) = false → ((!decide (((do_ s b).1.ps.length : Int) = (s.ps.length : Int))) = true → (.bool false : Value) = .bool true) ∧ ((!decide (((do_ s b).1.ps.length : Int) = (s.ps.length : Int))) = false → Brings w [poolF x5.1.1 x5.1.2.1] [] ∧ (((false, 0) : Bool × Nat).2 ≤ s.ls.length ∧ (((false, 0) : Bool × Nat).1 = false → ∀ j, j < ((false, 0) : Bool × Nat).2 → limit.lowers (s.ls.getD j xz) (((do_ s b).1).ls.getD j xz) = false)) ∧ (([.pointer (some ⟨g0, 0, none⟩), .pointer (some ⟨g2, 0, none⟩), .pointer (some ⟨g3, 0, none⟩), .bool false, .int .i64 0] : List Value) = [.pointer (some ⟨g0, 0, none⟩), .pointer (some ⟨g2, 0, none⟩), .pointer (some ⟨g3, 0, none⟩), .bool (((false, 0) : Bool × Nat).1), .int .i64 (((false, 0) : Bool × Nat).2 : Int)] ∧ ([some ⟨g3, 0, (stc x5.1.2.2 ((do_ s b).1)), .own 27⟩, some ⟨g2, 0, (rec.rc r), .own 29⟩, some ⟨g0, 0, (stc v s), .own 27⟩] : List (Option Blk)) = [some ⟨g3, 0, (stc x5.1.2.2 ((do_ s b).1)), .own 27⟩, some ⟨g2, 0, (rec.rc r), .own 29⟩, some ⟨g0, 0, (stc v s), .own 27⟩] ∧ Turns w [poolF x5.1.1 x5.1.2.1] [poolF x5.1.1 x5.1.2.1]) ∧ true = true ∧ ∀ (y11 : Bool × Nat), (y11.2 ≤ s.ls.length ∧ (y11.1 = false → ∀ j, j < y11.2 → limit.lowers (s.ls.getD j xz) (((do_ s b).1).ls.getD j xz) = false)) → ∀ τ13 : Nat → Value, ((decide ((y11.2 : Int) < (s.ls.length : Int))) = true → (y11.1 = true → (.int .i64 (IntKind.i64.wrap ((y11.2 : Int) + 1)) : Value) = .int .i64 ((y11.2 + 1 : Nat) : Int) ∧ ∃ x' : Bool × Nat, (x'.2 ≤ s.ls.length ∧ (x'.1 = false → ∀ j, j < x'.2 → limit.lowers (s.ls.getD j xz) (((do_ s b).1).ls.getD j xz) = false)) ∧ (s.ls.length - x'.2 < s.ls.length - y11.2) ∧ (([.pointer (some ⟨g0, 0, none⟩), .pointer (some ⟨g2, 0, none⟩), .pointer (some ⟨g3, 0, none⟩), .bool true, .int .i64 ((y11.2 + 1 : Nat) : Int)] : List Value) = [.pointer (some ⟨g0, 0, none⟩), .pointer (some ⟨g2, 0, none⟩), .pointer (some ⟨g3, 0, none⟩), .bool x'.1, .int .i64 (x'.2 : Int)] ∧ ([some ⟨g3, 0, (stc x5.1.2.2 ((do_ s b).1)), .own 27⟩, some ⟨g2, 0, (rec.rc r), .own 29⟩, some ⟨g0, 0, (stc v s), .own 27⟩] : List (Option Blk)) = [some ⟨g3, 0, (stc x5.1.2.2 ((do_ s b).1)), .own 27⟩, some ⟨g2, 0, (rec.rc r), .own 29⟩, some ⟨g0, 0, (stc v s), .own 27⟩] ∧ Turns w [poolF x5.1.1 x5.1.2.1] [poolF x5.1.1 x5.1.2.1]) ∧ true = true) ∧ (y11.1 = false → Yields0 Try.prog w [poolF x5.1.1 x5.1.2.1] (Instr.indexAt 24 (.slice v.A3 s.ls.length v.c3) (.int .i64 (y11.2 : Int))) (.pointer (some ⟨blkA v.A3, offA v.A3 + y11.2 * 3, none⟩)) ∧ Reads0 w [] (blkA v.A3) (offA v.A3 + y11.2 * 3) (cell.xc (s.ls.getD y11.2 xz)) ∧ Yields0 Try.prog w [poolF x5.1.1 x5.1.2.1] (Instr.indexAt 24 (.slice x5.1.2.2.A3 ((do_ s b).1.ls.length) x5.1.2.2.c3) (.int .i64 (y11.2 : Int))) (.pointer (some ⟨blkA x5.1.2.2.A3, offA x5.1.2.2.A3 + y11.2 * 3, none⟩)) ∧ Reads0 w [poolF x5.1.1 x5.1.2.1] (blkA x5.1.2.2.A3) (offA x5.1.2.2.A3 + y11.2 * 3) (cell.xc (((do_ s b).1.ls).getD y11.2 xz)) ∧ Gives Try.prog w [poolF x5.1.1 x5.1.2.1] 20 #[.agg (cell.xc (s.ls.getD y11.2 xz)), .agg (cell.xc (((do_ s b).1.ls).getD y11.2 xz))] (.bool (limit.lowers (s.ls.getD y11.2 xz) (((do_ s b).1.ls).getD y11.2 xz))) ∧ ((limit.lowers (s.ls.getD y11.2 xz) (((do_ s b).1.ls).getD y11.2 xz)) = true → (.int .i64 (IntKind.i64.wrap ((y11.2 : Int) + 1)) : Value) = .int .i64 ((y11.2 + 1 : Nat) : Int) ∧ ∃ x' : Bool × Nat, (x'.2 ≤ s.ls.length ∧ (x'.1 = false → ∀ j, j < x'.2 → limit.lowers (s.ls.getD j xz) (((do_ s b).1).ls.getD j xz) = false)) ∧ (s.ls.length - x'.2 < s.ls.length - y11.2) ∧ (([.pointer (some ⟨g0, 0, none⟩), .pointer (some ⟨g2, 0, none⟩), .pointer (some ⟨g3, 0, none⟩), .bool true, .int .i64 ((y11.2 + 1 : Nat) : Int)] : List Value) = [.pointer (some ⟨g0, 0, none⟩), .pointer (some ⟨g2, 0, none⟩), .pointer (some ⟨g3, 0, none⟩), .bool x'.1, .int .i64 (x'.2 : Int)] ∧ ([some ⟨g3, 0, (stc x5.1.2.2 ((do_ s b).1)), .own 27⟩, some ⟨g2, 0, (rec.rc r), .own 29⟩, some ⟨g0, 0, (stc v s), .own 27⟩] : List (Option Blk)) = [some ⟨g3, 0, (stc x5.1.2.2 ((do_ s b).1)), .own 27⟩, some ⟨g2, 0, (rec.rc r), .own 29⟩, some ⟨g0, 0, (stc v s), .own 27⟩] ∧ Turns w [poolF x5.1.1 x5.1.2.1] [poolF x5.1.1 x5.1.2.1]) ∧ true = true) ∧ ((limit.lowers (s.ls.getD y11.2 xz) (((do_ s b).1.ls).getD y11.2 xz)) = false → (.int .i64 (IntKind.i64.wrap ((y11.2 : Int) + 1)) : Value) = .int .i64 ((y11.2 + 1 : Nat) : Int) ∧ ∃ x' : Bool × Nat, (x'.2 ≤ s.ls.length ∧ (x'.1 = false → ∀ j, j < x'.2 → limit.lowers (s.ls.getD j xz) (((do_ s b).1).ls.getD j xz) = false)) ∧ (s.ls.length - x'.2 < s.ls.length - y11.2) ∧ (([.pointer (some ⟨g0, 0, none⟩), .pointer (some ⟨g2, 0, none⟩), .pointer (some ⟨g3, 0, none⟩), .bool false, .int .i64 ((y11.2 + 1 : Nat) : Int)] : List Value) = [.pointer (some ⟨g0, 0, none⟩), .pointer (some ⟨g2, 0, none⟩), .pointer (some ⟨g3, 0, none⟩), .bool x'.1, .int .i64 (x'.2 : Int)] ∧ ([some ⟨g3, 0, (stc x5.1.2.2 ((do_ s b).1)), .own 27⟩, some ⟨g2, 0, (rec.rc r), .own 29⟩, some ⟨g0, 0, (stc v s), .own 27⟩] : List (Option Blk)) = [some ⟨g3, 0, (stc x5.1.2.2 ((do_ s b).1)), .own 27⟩, some ⟨g2, 0, (rec.rc r), .own 29⟩, some ⟨g0, 0, (stc v s), .own 27⟩] ∧ Turns w [poolF x5.1.1 x5.1.2.1] [poolF x5.1.1 x5.1.2.1]) ∧ true = true))) ∧ ((decide ((y11.2 : Int) < (s.ls.length : Int))) = false → Brings w [poolF x5.1.1 x5.1.2.1] [] ∧ (((y11.1, 0) : Bool × Nat).2 ≤ s.ps.length ∧ (((y11.1, 0) : Bool × Nat).1 = false → (∀ j, j < s.ls.length → limit.lowers (s.ls.getD j xz) (((do_ s b).1).ls.getD j xz) = false) ∧ ∀ j, j < ((y11.1, 0) : Bool × Nat).2 → s.ps.getD j 0 ≤ ((do_ s b).1).ps.getD j 0)) ∧ (([.pointer (some ⟨g0, 0, none⟩), .pointer (some ⟨g2, 0, none⟩), .pointer (some ⟨g3, 0, none⟩), .bool y11.1, .int .i64 0] : List Value) = [.pointer (some ⟨g0, 0, none⟩), .pointer (some ⟨g2, 0, none⟩), .pointer (some ⟨g3, 0, none⟩), .bool (((y11.1, 0) : Bool × Nat).1), .int .i64 (((y11.1, 0) : Bool × Nat).2 : Int)] ∧ ([some ⟨g3, 0, (stc x5.1.2.2 ((do_ s b).1)), .own 27⟩, some ⟨g2, 0, (rec.rc r), .own 29⟩, some ⟨g0, 0, (stc v s), .own 27⟩] : List (Option Blk)) = [some ⟨g3, 0, (stc x5.1.2.2 ((do_ s b).1)), .own 27⟩, some ⟨g2, 0, (rec.rc r), .own 29⟩, some ⟨g0, 0, (stc v s), .own 27⟩] ∧ Turns w [poolF x5.1.1 x5.1.2.1] [poolF x5.1.1 x5.1.2.1]) ∧ true = true ∧ ∀ (y17 : Bool × Nat), (y17.2 ≤ s.ps.length ∧ (y17.1 = false → (∀ j, j < s.ls.length → limit.lowers (s.ls.getD j xz) (((do_ s b).1).ls.getD j xz) = false) ∧ ∀ j, j < y17.2 → s.ps.getD j 0 ≤ ((do_ s b).1).ps.getD j 0)) → ∀ τ19 : Nat → Value, ((decide ((y17.2 : Int) < (s.ps.length : Int))) = true → (y17.1 = true → (.int .i64 (IntKind.i64.wrap ((y17.2 : Int) + 1)) : Value) = .int .i64 ((y17.2 + 1 : Nat) : Int) ∧ ∃ x' : Bool × Nat, (x'.2 ≤ s.ps.length ∧ (x'.1 = false → (∀ j, j < s.ls.length → limit.lowers (s.ls.getD j xz) (((do_ s b).1).ls.getD j xz) = false) ∧ ∀ j, j < x'.2 → s.ps.getD j 0 ≤ ((do_ s b).1).ps.getD j 0)) ∧ (s.ps.length - x'.2 < s.ps.length - y17.2) ∧ (([.pointer (some ⟨g0, 0, none⟩), .pointer (some ⟨g2, 0, none⟩), .pointer (some ⟨g3, 0, none⟩), .bool true, .int .i64 ((y17.2 + 1 : Nat) : Int)] : List Value) = [.pointer (some ⟨g0, 0, none⟩), .pointer (some ⟨g2, 0, none⟩), .pointer (some ⟨g3, 0, none⟩), .bool x'.1, .int .i64 (x'.2 : Int)] ∧ ([some ⟨g3, 0, (stc x5.1.2.2 ((do_ s b).1)), .own 27⟩, some ⟨g2, 0, (rec.rc r), .own 29⟩, some ⟨g0, 0, (stc v s), .own 27⟩] : List (Option Blk)) = [some ⟨g3, 0, (stc x5.1.2.2 ((do_ s b).1)), .own 27⟩, some ⟨g2, 0, (rec.rc r), .own 29⟩, some ⟨g0, 0, (stc v s), .own 27⟩] ∧ Turns w [poolF x5.1.1 x5.1.2.1] [poolF x5.1.1 x5.1.2.1]) ∧ true = true) ∧ (y17.1 = false → Yields0 Try.prog w [poolF x5.1.1 x5.1.2.1] (Instr.indexAt 25 (.slice x5.1.2.2.A4 ((do_ s b).1.ps.length) x5.1.2.2.c4) (.int .i64 (y17.2 : Int))) (.pointer (some ⟨blkA x5.1.2.2.A4, offA x5.1.2.2.A4 + y17.2 * 1, none⟩)) ∧ Reads0 w [poolF x5.1.1 x5.1.2.1] (blkA x5.1.2.2.A4) (offA x5.1.2.2.A4 + y17.2 * 1) #[.int .i64 (((do_ s b).1.ps).getD y17.2 0)] ∧ Yields0 Try.prog w [poolF x5.1.1 x5.1.2.1] (Instr.indexAt 25 (.slice v.A4 s.ps.length v.c4) (.int .i64 (y17.2 : Int))) (.pointer (some ⟨blkA v.A4, offA v.A4 + y17.2 * 1, none⟩)) ∧ Reads0 w [] (blkA v.A4) (offA v.A4 + y17.2 * 1) #[.int .i64 (s.ps.getD y17.2 0)] ∧ ((decide ((((do_ s b).1.ps).getD y17.2 0) < (s.ps.getD y17.2 0))) = true → (.int .i64 (IntKind.i64.wrap ((y17.2 : Int) + 1)) : Value) = .int .i64 ((y17.2 + 1 : Nat) : Int) ∧ ∃ x' : Bool × Nat, (x'.2 ≤ s.ps.length ∧ (x'.1 = false → (∀ j, j < s.ls.length → limit.lowers (s.ls.getD j xz) (((do_ s b).1).ls.getD j xz) = false) ∧ ∀ j, j < x'.2 → s.ps.getD j 0 ≤ ((do_ s b).1).ps.getD j 0)) ∧ (s.ps.length - x'.2 < s.ps.length - y17.2) ∧ (([.pointer (some ⟨g0, 0, none⟩), .pointer (some ⟨g2, 0, none⟩), .pointer (some ⟨g3, 0, none⟩), .bool true, .int .i64 ((y17.2 + 1 : Nat) : Int)] : List Value) = [.pointer (some ⟨g0, 0, none⟩), .pointer (some ⟨g2, 0, none⟩), .pointer (some ⟨g3, 0, none⟩), .bool x'.1, .int .i64 (x'.2 : Int)] ∧ ([some ⟨g3, 0, (stc x5.1.2.2 ((do_ s b).1)), .own 27⟩, some ⟨g2, 0, (rec.rc r), .own 29⟩, some ⟨g0, 0, (stc v s), .own 27⟩] : List (Option Blk)) = [some ⟨g3, 0, (stc x5.1.2.2 ((do_ s b).1)), .own 27⟩, some ⟨g2, 0, (rec.rc r), .own 29⟩, some ⟨g0, 0, (stc v s), .own 27⟩] ∧ Turns w [poolF x5.1.1 x5.1.2.1] [poolF x5.1.1 x5.1.2.1]) ∧ true = true) ∧ ((decide ((((do_ s b).1.ps).getD y17.2 0) < (s.ps.getD y17.2 0))) = false → (.int .i64 (IntKind.i64.wrap ((y17.2 : Int) + 1)) : Value) = .int .i64 ((y17.2 + 1 : Nat) : Int) ∧ ∃ x' : Bool × Nat, (x'.2 ≤ s.ps.length ∧ (x'.1 = false → (∀ j, j < s.ls.length → limit.lowers (s.ls.getD j xz) (((do_ s b).1).ls.getD j xz) = false) ∧ ∀ j, j < x'.2 → s.ps.getD j 0 ≤ ((do_ s b).1).ps.getD j 0)) ∧ (s.ps.length - x'.2 < s.ps.length - y17.2) ∧ (([.pointer (some ⟨g0, 0, none⟩), .pointer (some ⟨g2, 0, none⟩), .pointer (some ⟨g3, 0, none⟩), .bool false, .int .i64 ((y17.2 + 1 : Nat) : Int)] : List Value) = [.pointer (some ⟨g0, 0, none⟩), .pointer (some ⟨g2, 0, none⟩), .pointer (some ⟨g3, 0, none⟩), .bool x'.1, .int .i64 (x'.2 : Int)] ∧ ([some ⟨g3, 0, (stc x5.1.2.2 ((do_ s b).1)), .own 27⟩, some ⟨g2, 0, (rec.rc r), .own 29⟩, some ⟨g0, 0, (stc v s), .own 27⟩] : List (Option Blk)) = [some ⟨g3, 0, (stc x5.1.2.2 ((do_ s b).1)), .own 27⟩, some ⟨g2, 0, (rec.rc r), .own 29⟩, some ⟨g0, 0, (stc v s), .own 27⟩] ∧ Turns w [poolF x5.1.1 x5.1.2.1] [poolF x5.1.1 x5.1.2.1]) ∧ true = true))) ∧ ((decide ((y17.2 : Int) < (s.ps.length : Int))) = false → (y17.1 = true → (.bool true : Value) = .bool true) ∧ (y17.1 = false → Gives Try.prog w [poolF x5.1.1 x5.1.2.1] 19 #[.agg (stc v s), .agg (rec.rc r)] (.int .i64 ((do_ s r).2)) ∧ ((!decide (((do_ s r).2) = 0)) = true → (.bool true : Value) = .bool true) ∧ ((!decide (((do_ s r).2) = 0)) = false → Gives Try.prog w [poolF x5.1.1 x5.1.2.1] 19 #[.agg (stc x5.1.2.2 ((do_ s b).1)), .agg (rec.rc r)] (.int .i64 ((do_ ((do_ s b).1) r).2)) ∧ ((decide (((do_ ((do_ s b).1) r).2) = 0)) = true → (.bool true : Value) = .bool true) ∧ ((decide (((do_ ((do_ s b).1) r).2) = 0)) = false → (.bool false : Value) = .bool true)))))))) ∧ ((decide (s = (bt s ((do_ s b).1)))) = false → (.bool false : Value) = .bool true))))) ∧ ((right s) = false → (.bool true : Value) = .bool true)) ∧ ((short s) = false → (.bool true : Value) = .bool true)) Try.func6 (by kernel_rfl)
  (fun g0 => fun g1 => fun g2 => ⟨gives awake_any, ⟨i_short, fun h1 => ⟨i_right (all_lt h), fun h2 => ⟨fun h3 => have h3 : ¬ b.k = 4 := (by simpa using h3)
 rfl,
 fun h3 => have h3 : b.k = 4 := (by simpa using h3)
⟨fun h4 => have h4 : 1000 < s.lsn := (by simpa using h4)
 rfl,
 fun h4 => have h4 : ¬ 1000 < s.lsn := (by simpa using h4)
⟨i_do (fixed_low (fun k hk => hk)) (fun w hw _ => h.below hw) hb, fun x5 => fun g3 => ⟨fun h6 => have h6 : ¬ ((do_ s b).2) = 0 := (by simpa using h6)
⟨fun h7 => have h7 : ((do_ s b).2) = 1 := (by simpa using h7)
 rfl,
 fun h7 => have h7 : ¬ ((do_ s b).2) = 1 := (by simpa using h7)
(by exact absurd (bound_err h2 h3 h6) h7)⟩,
 fun h6 => have h6 : ((do_ s b).2) = 0 := (by simpa using h6)
 fun g4 => ⟨i_same (all_lt h) (fun w hw ha => in_b (h.later hw) (dat_lt x5 (fixed_low (fun k hk => hk)) (i := 0) rfl w hw ha)), fun h8 => ⟨fun h9 => have h9 : ¬ ((do_ s b).1.ls.length : Int) = (s.ls.length : Int) := (by simpa using h9)
(by have h9 := (bound_is h3 h6).2; exfalso; omega),
 fun h9 => have h9 : ((do_ s b).1.ls.length : Int) = (s.ls.length : Int) := (by simpa using h9)
⟨fun h10 => have h10 : ¬ ((do_ s b).1.ps.length : Int) = (s.ps.length : Int) := (by simpa using h10)
(by have h9 := (bound_is h3 h6).2; exfalso; omega),
 fun h10 => have h10 : ((do_ s b).1.ps.length : Int) = (s.ps.length : Int) := (by simpa using h10)
⟨(fun w _ _ => news_nil), ⟨Nat.zero_le _, fun _ j hj => absurd hj (Nat.not_lt_zero j)⟩, ⟨rfl, rfl, (turns_sub (.cons_cons _ (List.nil_sublist _)))⟩, rfl, fun y11 I12 τ13 => ⟨fun h14 => have h14 : (y11.2 : Int) < (s.ls.length : Int) := (by simpa using h14)
⟨fun h15 => ⟨wrap_is (by omega) (by omega) (by omega), ⟨((true, y11.2 + 1) : Bool × Nat), ⟨by dsimp only; omega, fun e => by cases e⟩, (by dsimp only; omega), ⟨rfl, rfl, (turns_sub (.cons_cons _ (List.nil_sublist _)))⟩, rfl⟩⟩,
 fun h15 => ⟨(low_index Try.underlying24 info_expo expo_cells (Nat.le_refl _) h.l rfl (by omega)), (low_reads expo_cells (Nat.le_refl _) h.l (at_getD (by omega))), ⟨(el_index Try.underlying24 info_expo (fun w hw ha => ⟨_, (dat_lt x5 (fixed_low (fun k hk => hk)) (i := 0) rfl w hw ha).l⟩) rfl (by omega)), (el_reads expo_cells (fun w hw ha => ⟨_, (dat_lt x5 (fixed_low (fun k hk => hk)) (i := 0) rfl w hw ha).l⟩) (at_getD (by omega))), ⟨gives (fun w => limit.lowers_is (s.ls.getD y11.2 xz).l (s.ls.getD y11.2 xz).s (s.ls.getD y11.2 xz).n (((do_ s b).1.ls).getD y11.2 xz).l (((do_ s b).1.ls).getD y11.2 xz).s (((do_ s b).1.ls).getD y11.2 xz).n rfl w), fun h16 => ⟨wrap_is (by omega) (by omega) (by omega), ⟨((true, y11.2 + 1) : Bool × Nat), ⟨by dsimp only; omega, fun e => by cases e⟩, (by dsimp only; omega), ⟨rfl, rfl, (turns_sub (.cons_cons _ (List.nil_sublist _)))⟩, rfl⟩⟩,
 fun h16 => ⟨wrap_is (by omega) (by omega) (by omega), ⟨((false, y11.2 + 1) : Bool × Nat), ⟨by dsimp only; omega, fun _ => lt_step (I12.2 h15) h16⟩, (by dsimp only; omega), ⟨rfl, rfl, (turns_sub (.cons_cons _ (List.nil_sublist _)))⟩, rfl⟩⟩⟩⟩⟩⟩,
 fun h14 => have h14 : ¬ (y11.2 : Int) < (s.ls.length : Int) := (by simpa using h14)
⟨(fun w _ _ => news_nil), ⟨Nat.zero_le _, fun e => ⟨fun j hj => I12.2 e j (by omega), fun j hj => absurd hj (Nat.not_lt_zero j)⟩⟩, ⟨rfl, rfl, (turns_sub (.cons_cons _ (List.nil_sublist _)))⟩, rfl, fun y17 I18 τ19 => ⟨fun h20 => have h20 : (y17.2 : Int) < (s.ps.length : Int) := (by simpa using h20)
⟨fun h21 => ⟨wrap_is (by omega) (by omega) (by omega), ⟨((true, y17.2 + 1) : Bool × Nat), ⟨by dsimp only; omega, fun e => by cases e⟩, (by dsimp only; omega), ⟨rfl, rfl, (turns_sub (.cons_cons _ (List.nil_sublist _)))⟩, rfl⟩⟩,
 fun h21 => ⟨(el_index Try.underlying25 info_i64 (fun w hw ha => ⟨_, (dat_lt x5 (fixed_low (fun k hk => hk)) (i := 0) rfl w hw ha).k⟩) rfl (by omega)), (el_reads int_cells (fun w hw ha => ⟨_, (dat_lt x5 (fixed_low (fun k hk => hk)) (i := 0) rfl w hw ha).k⟩) (at_getD (by omega))), ⟨(low_index Try.underlying25 info_i64 int_cells (Nat.le_refl _) h.k rfl (by omega)), (low_reads int_cells (Nat.le_refl _) h.k (at_getD (by omega))), ⟨fun h22 => have h22 : (((do_ s b).1.ps).getD y17.2 0) < (s.ps.getD y17.2 0) := (by simpa using h22)
⟨wrap_is (by omega) (by omega) (by omega), ⟨((true, y17.2 + 1) : Bool × Nat), ⟨by dsimp only; omega, fun e => by cases e⟩, (by dsimp only; omega), ⟨rfl, rfl, (turns_sub (.cons_cons _ (List.nil_sublist _)))⟩, rfl⟩⟩,
 fun h22 => have h22 : ¬ (((do_ s b).1.ps).getD y17.2 0) < (s.ps.getD y17.2 0) := (by simpa using h22)
⟨wrap_is (by omega) (by omega) (by omega), ⟨((false, y17.2 + 1) : Bool × Nat), ⟨by dsimp only; omega, fun _ => ⟨(I18.2 h21).1, lt_step (I18.2 h21).2 (by omega)⟩⟩, (by dsimp only; omega), ⟨rfl, rfl, (turns_sub (.cons_cons _ (List.nil_sublist _)))⟩, rfl⟩⟩⟩⟩⟩⟩,
 fun h20 => have h20 : ¬ (y17.2 : Int) < (s.ps.length : Int) := (by simpa using h20)
⟨fun h23 => rfl,
 fun h23 => ⟨i_may (all_lt h) hr, ⟨fun h24 => have h24 : ¬ ((do_ s r).2) = 0 := (by simpa using h24)
 rfl,
 fun h24 => have h24 : ((do_ s r).2) = 0 := (by simpa using h24)
⟨i_may (dat_lt x5 (fixed_low (fun k hk => hk)) (i := 0) rfl) hr, ⟨fun h25 => have h25 : ((do_ ((do_ s b).1) r).2) = 0 := (by simpa using h25)
 rfl,
 fun h25 => have h25 : ¬ ((do_ ((do_ s b).1) r).2) = 0 := (by simpa using h25)
(by exact absurd (bound_may h3 (by omega) h6 h2 (by simpa using (bound_is h3 h6).1) (bound_is h3 h6).2 (I18.2 h23).1 (fun j hj => (I18.2 h23).2 j (by omega)) h24) h25)⟩⟩⟩⟩⟩⟩⟩⟩⟩⟩⟩,
 fun h8 => (by exact absurd (bound_is h3 h6).1 (by simpa using h8))⟩⟩⟩⟩⟩,
 fun h2 => rfl⟩,
 fun h1 => rfl⟩⟩)
-- VX ENDS
theorem walk (cs0 : Array Value) (x0 : StateD) (cs1 : Array Value) (x1 : RecD) (cs2 : Array Value) (x2 : RecD) (w : World) (w0 : rdState w (Lt w.heap.size) cs0.toList x0) (w1 : rdRec w (Lt w.heap.size) cs1.toList x1) (w2 : rdRec w (Lt w.heap.size) cs2.toList x2) :
    Calls Try.prog 6 #[.agg cs0, .agg cs1, .agg cs2] w fun e w' => e = .returned (.bool true) ∧ Below w.heap.size w w' := by
  obtain ⟨v0, e0, h0⟩ := w0
  obtain rfl : cs0 = stc v0 x0 := by apply Array.toList_inj.1; exact e0
  obtain rfl : cs1 = rec.rc x1 := by apply Array.toList_inj.1; exact w1.1
  obtain rfl : cs2 = rec.rc x2 := by apply Array.toList_inj.1; exact w2.1
  exact walk0 v0 x0 x1 x2 w h0 w1.2 w2.2

set_option maxRecDepth 100000 in
theorem lifted (os : Os) (started : os.Started) (H : Type) (enc : TypeId × Value → H) :
    ReturnsInHanded {} Try.checked os 6 .any (Rows.bookBoundsSpec.pre6 enc Try.prog Try.f6 Rows.bookBoundsRow.domain false) (Rows.bookBoundsSpec.post enc Try.prog Try.f6 false true false false) := by
  refine returnsInHanded_of_change (C := Try.checked) own started (by kernel_rfl) Try.func6
    (ChangeSpec.witness6 (enc := enc) (C := Try.checked) false ⟨#[], #[.agg #[.int .i64 0, .int .i64 0, .slice none 0 0, .slice none 0 0, .slice none 0 0, .slice none 0 0, .bool false, .int .i64 0, .int .i64 0, .int .i64 0], .agg #[.int .i64 0, .int .i64 0, .int .i64 0, .int .i64 0, .int .i64 0, .int .i64 0, .int .i64 0, .int .i64 0, .int .i64 0, .int .i64 0, .bool false, .int .i64 0, .int .i64 0], .agg #[.int .i64 0, .int .i64 0, .int .i64 0, .int .i64 0, .int .i64 0, .int .i64 0, .int .i64 0, .int .i64 0, .int .i64 0, .int .i64 0, .bool false, .int .i64 0, .int .i64 0]], []⟩ 8 (by kernel_rfl) (by kernel_rfl) (by kernel_rfl) (by kernel_rfl)) ?_
  intro W base args ds gs before hval0 hW hcnd _
  have hval : ∀ (j : Nat) t v, Try.f6.params[j]? = some t → args[j]? = some v → Value.okWide Try.prog W .any base t v := hval0
  have hW' := hW
  obtain ⟨p, q, hA0, hV, rfl, hfz, hnd⟩ := hW
  have hA : DataW.TrodAll enc Try.prog W 0 (fun _ => true) true Try.f6.params.toList args.toList ds p := hA0
  rw [Try.params6] at hA hval
  obtain ⟨v0, vs0, d0, ds0, p0_, q0, hargs, rfl, rfl, h0, r0⟩ := trodAll_cons hA
  obtain ⟨v1, vs1, d1, ds1, p1_, q1, rfl, rfl, rfl, h1, r1⟩ := trodAll_cons r0
  obtain ⟨v2, vs2, d2, ds2, p2_, q2, rfl, rfl, rfl, h2, r2⟩ := trodAll_cons r1
  obtain ⟨rfl, rfl, rfl⟩ := trodAll_nil r2
  obtain rfl : args = #[v0, v1, v2] := by cases args; simp_all
  obtain ⟨rfl, rfl⟩ := trodVars_none hV
  obtain ⟨cs0, rfl, hsz0⟩ := okWide_struct Try.underlying27 (hval 0 27 v0 rfl rfl)
  have k0 := h0
  have lt0 : ∀ x ∈ p0_, x.block < W.heap.size := by obtain ⟨m, hm⟩ := k0; exact DataW.trod_lt m _ _ _ hm
  obtain ⟨x0, w0⟩ := of_arg of_state k0
  obtain ⟨cs1, rfl, hsz1⟩ := okWide_struct Try.underlying29 (hval 1 29 v1 rfl rfl)
  have k1 := h1
  have lt1 : ∀ x ∈ p1_, x.block < W.heap.size := by obtain ⟨m, hm⟩ := k1; exact DataW.trod_lt m _ _ _ hm
  obtain ⟨x1, w1⟩ := of_arg of_rec k1
  obtain ⟨cs2, rfl, hsz2⟩ := okWide_struct Try.underlying29 (hval 2 29 v2 rfl rfl)
  have k2 := h2
  have lt2 : ∀ x ∈ p2_, x.block < W.heap.size := by obtain ⟨m, hm⟩ := k2; exact DataW.trod_lt m _ _ _ hm
  obtain ⟨x2, w2⟩ := of_arg of_rec k2
  clear hA0 hval0
  refine (walk cs0 x0 cs1 x1 cs2 x2 W w0 w1 w2).mono fun e W' ⟨he, bel⟩ => ?_
  subst he
  exact ⟨_, rfl, _, _, _, [], _, [], hW', trodAll_mk1 (shut_bool Try.underlying4 _), (trodAll_cons_mk (Below.trod laidOut (by kernel_rfl) (of_decide_eq_true (by kernel_rfl)) k0 bel lt0) (trodAll_cons_mk (Below.trod laidOut (by kernel_rfl) (of_decide_eq_true (by kernel_rfl)) k1 bel lt1) (trodAll_cons_mk (Below.trod laidOut (by kernel_rfl) (of_decide_eq_true (by kernel_rfl)) k2 bel lt2) trodAll_mk0))), rfl, bel.frame _, fun h => by cases h⟩

theorem over : Rows.bookBoundsRow.holds Try.pinned (OpenSpec.ofChange Rows.bookBoundsSpec) :=
  OpenClaim.holds_of_wide 6 Try.f6 rfl rfl rfl rfl rfl rfl rfl ⟨rfl, rfl, rfl, rfl, rfl⟩ rfl rfl rfl rfl rfl (by kernel_rfl) Try.func6 (by kernel_rfl)
    (of_decide_eq_true (by kernel_rfl)) (by unfold Func.isWrapper; first | (rw [if_pos (by decide +kernel)]; kernel_rfl) | (rw [if_neg (by decide +kernel)]; exact ⟨rfl, rfl⟩))
    (fun os started H enc _ => lifted os started H enc)

theorem proved : Rows.BookBoundsSaid := over
#print axioms proved
end Go.Proofs.Ytaagpldanbjacaa.bookBounds
