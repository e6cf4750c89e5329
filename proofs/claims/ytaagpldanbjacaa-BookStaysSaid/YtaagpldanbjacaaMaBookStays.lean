/-
  PROVED: the law BookStays answers true at every input, and leaves what it was given as it was.
  CONDITIONS: none.
-/
import Derived.Test.YtaagpldanbjacaaRows
import Derived.WalkKit
import Derived.ProofKit
import Derived.OpenShut
import Derived.ShutString
import Derived.ChangeOld
import Derived.Below
import Derived.Test.YtaagpldanbjacaaMa04
import Derived.Test.YtaagpldanbjacaaMa52
import Derived.Test.YtaagpldanbjacaaMa53
import Derived.Test.YtaagpldanbjacaaMa24
import Derived.Test.YtaagpldanbjacaaMa17
namespace Go.Proofs.Ytaagpldanbjacaa.bookStays
open Go.ChangeShapes Go.WideShapes Go.ChangeAt Go.RowKit
open Go.ChangeMaps (open_string shut_string)
open Go.Proofs.Ytaagpldanbjacaa Go.Proofs.Ytaagpldanbjacaa.book
open Go.Proofs.Ytaagpldanbjacaa.order (Or open_ worth oz)
open Go.Proofs.Ytaagpldanbjacaa.cell (Ce Ex)
open Go.Proofs.Ytaagpldanbjacaa.rec (Rc)
set_option linter.unusedVariables false
set_option linter.unusedSimpArgs false

theorem own : ownKnob Try.prog.godebug = none := by kernel_rfl
theorem laidOut : laidOutB Try.prog = true := by kernel_rfl

-- VX BEGINS
def rz : Rc := ⟨0, 0, 0, 0, 0, 0, 0, 0, 0, 0, false, 0, 0⟩
theorem keeps_rec : Keeps rdRec := fun _ _ _ _ _ _ h _ _ => h
theorem info_rec : (Try.prog.info? 29).map (fun i => (i.zero, i.size, i.bytes)) = some (some (.agg #[.int .i64 0, .int .i64 0, .int .i64 0, .int .i64 0, .int .i64 0, .int .i64 0, .int .i64 0, .int .i64 0, .int .i64 0, .int .i64 0, .bool false, .int .i64 0, .int .i64 0]), 13, 104) := by kernel_rfl
theorem rec_cells (w : World) (S : Nat → Prop) (cs : List Value) (x : Rc) (h : rdRec w S cs x) : cs = (rec.rc x).toList := h.1
theorem fine_rec {w : World} {S : Nat → Prop} {A : Option Addr} {xs : List Rc} (h : Elems rdRec 13 w S A xs) : ∀ o ∈ xs, o.fine := fun o ho => by
  obtain ⟨j, hj, rfl⟩ := List.getElem_of_mem ho
  obtain ⟨b, off, e, hb, hc⟩ := h (by omega)
  obtain ⟨cs, hl, hcs, _, hf⟩ := hc j xs[j] (List.getElem?_eq_getElem hj)
  exact hf
abbrev s0d {w : World} {v : Sv} {s : St} (h : InS w (Lt w.heap.size) v s) : Dat (fun w S (b : Sv × St) => InS w S b.1 b.2) (Lt w.heap.size) w :=
  ⟨(w, (fun _ => False), (v, s)), h.keep (alike_refl _ _) (fun _ h => .inl h), fun _ _ => rfl, fun _ h => h.elim⟩
abbrev nextd {w : World} (x : Dat (fun w S (b : Sv × St) => InS w S b.1 b.2) (Lt w.heap.size) w) {t : St} (z : Dat (fun w S v => InS w S v t) (fun k => Lt w.heap.size k ∨ x.1.2.1 k) x.1.1) : Dat (fun w S (b : Sv × St) => InS w S b.1 b.2) (Lt w.heap.size) w :=
  ⟨(z.1.1, (fun k => x.1.2.1 k ∨ z.1.2.1 k), (z.1.2.2, t)), InS.keep z.2.1 (alike_refl _ _) (fun k hk => by
      rcases hk with (hk | hk) | hk
      · exact .inl hk
      · exact .inr (.inl hk)
      · exact .inr (.inr hk)), fun k hk => (z.2.2.1 k (.inl hk)).trans (x.2.2.1 k hk), fun k hk => by
    rcases hk with hk | hk
    · have h1 := z.2.2.1 k (.inr hk)
      rw [Array.getElem?_eq_getElem (x.2.2.2 k hk)] at h1
      exact (Array.getElem?_eq_some_iff.1 h1).1
    · exact z.2.2.2 k hk⟩
theorem keeps_p : Keeps3 (fun w S (b : Sv × St) => InS w S b.1 b.2) := fun w w' S S' b h ha hs => InS.keep h ha.alike hs
theorem news_pool0 {w0 w : World} {n : Nat} : News (fun _ => False) n [poolF w0 (fun _ => False)] w :=
  ⟨⟨fun _ h => h.elim, trivial⟩, fun f hf k hk => by rw [List.mem_singleton.1 hf] at hk; exact hk.elim, List.pairwise_singleton _ _, fun f hf => by rw [List.mem_singleton.1 hf]; exact poolF_stable _ _⟩
section
variable {w0 : World} {D : List Fact}
theorem fixed_both (x : Dat (fun w S (b : Sv × St) => InS w S b.1 b.2) (Lt w0.heap.size) w0) {i : Nat} (hi : D[i]? = some (poolF x.1.1 x.1.2.1)) : Fixed w0 D (fun k => Lt w0.heap.size k ∨ x.1.2.1 k) x.1.1 := fun w hw ha => ⟨fun k hk => by
    rcases hk with hk | hk
    · exact (hw.block k hk).trans (x.2.2.1 k hk).symm
    · exact pool_at hi ha k hk, fun k hk => by
    rcases hk with hk | hk
    · exact Nat.lt_of_lt_of_le hk hw.size
    · have h1 := pool_at hi ha k hk
      rw [Array.getElem?_eq_getElem (x.2.2.2 k hk)] at h1
      exact (Array.getElem?_eq_some_iff.1 h1).1⟩
theorem in_both (x : Dat (fun w S (b : Sv × St) => InS w S b.1 b.2) (Lt w0.heap.size) w0) {i : Nat} (hi : D[i]? = some (poolF x.1.1 x.1.2.1)) : ∀ w, Below w0.heap.size w0 w → All D w → InS w (fun k => Lt w0.heap.size k ∨ x.1.2.1 k) x.1.2.2.1 x.1.2.2.2 :=
  fun w hw ha => x.later keeps_p (fun k hk => hw.block k hk) (pool_at hi ha)
theorem datp_lt (x : Dat (fun w S (b : Sv × St) => InS w S b.1 b.2) (Lt w0.heap.size) w0) {i : Nat} (hi : D[i]? = some (poolF x.1.1 x.1.2.1)) : ∀ w, Below w0.heap.size w0 w → All D w → InS w (Lt w.heap.size) x.1.2.2.1 x.1.2.2.2 := fun w hw ha => (in_both x hi w hw ha).lt
end
theorem turns_pool {w : World} (x : Dat (fun w S (b : Sv × St) => InS w S b.1 b.2) (Lt w.heap.size) w) {t : St} (z : Dat (fun w S v => InS w S v t) (fun k => Lt w.heap.size k ∨ x.1.2.1 k) x.1.1) : Turns w [poolF z.1.1 z.1.2.1, poolF x.1.1 x.1.2.1] [poolF (nextd x z).1.1 (nextd x z).1.2.1] := fun _ _ =>
  ⟨fun f hf => by rw [List.mem_singleton.1 hf]; exact poolF_stable _ _, List.pairwise_singleton _ _, fun f hf k hk => by
    rw [List.mem_singleton.1 hf] at hk
    rcases hk with hk | hk
    · exact ⟨poolF x.1.1 x.1.2.1, by simp, hk⟩
    · exact ⟨poolF z.1.1 z.1.2.1, by simp, hk⟩, fun w' _ ha => ⟨fun k hk => by
    rcases hk with hk | hk
    · exact (ha.2.1 k hk).trans (z.2.2.1 k (.inr hk)).symm
    · exact ha.1 k hk, trivial⟩⟩
theorem same_no {s : St} {r : Rc} (h : ¬ (do_ s r).2 = 0) : s = (do_ s r).1 := ((do_err (s := s) (r := r) (t := (do_ s r).1) (e := (do_ s r).2) rfl).resolve_left h).symm
theorem is_ok {s : St} {r : Rc} (h : (do_ s r).2 = 0) : do_ s r = ((do_ s r).1, 0) := by rw [← h]
theorem stay_right {s : St} {r : Rc} (hs : right s = true) : right (do_ s r).1 = true := by
  by_cases h : (do_ s r).2 = 0
  · exact right_iff.2 (do_right (is_ok h)).1
  · rw [← same_no h]; exact hs
theorem ask_cnt {s : St} {L : List Or} {a y la : Int} (h : (book.ask s L a y la).2 = 0) : (book.ask s L a y la).1.seq = s.seq ∧ (book.ask s L a y la).1.last = la := by
  unfold book.ask at h ⊢
  split at h
  · rename_i h1
    rw [if_pos h1]
    split at h
    · cases h
    · rename_i h2
      rw [if_neg h2]; exact ⟨rfl, rfl⟩
  · cases h
theorem doing_cnt {s : St} {r : Rc} (hk6 : 1 ≤ r.k ∧ r.k ≤ 6) (h : (doing s r).2 = 0) : ((r.k = 6 ∧ (doing s r).1.seq = s.seq + 1) ∨ (¬ r.k = 6 ∧ (doing s r).1.seq = s.seq)) ∧ ((r.k = 1 ∧ (doing s r).1.last = r.o) ∨ (¬ r.k = 1 ∧ (doing s r).1.last = s.last)) := by
  unfold doing at h ⊢
  by_cases h1 : r.k = 1
  · rw [if_pos h1] at h ⊢
    by_cases h2 : s.k = true
    · rw [if_pos h2] at h; exact absurd h (by simp)
    rw [if_neg h2] at h ⊢
    by_cases h3 : 64 ≤ s.os.length
    · rw [if_pos h3] at h; exact absurd h (by simp)
    rw [if_neg h3] at h ⊢
    have h4 := ask_cnt h
    exact ⟨.inr ⟨by omega, h4.1⟩, .inl ⟨h1, h4.2⟩⟩
  rw [if_neg h1] at h ⊢
  by_cases h2 : r.k = 2
  · rw [if_pos h2] at h ⊢
    cases hk : find s.os r.o with
    | none => rw [hk] at h; exact absurd h (by simp)
    | some k =>
      simp only [hk] at h ⊢
      by_cases h3 : (order.change (s.os.getD k order.oz) r.q r.p).2 ≠ 0
      · rw [if_pos h3] at h; exact absurd h (by simp)
      rw [if_neg h3] at h ⊢
      by_cases h4 : s.k = true
      · rw [if_pos h4] at h; exact absurd h (by simp)
      rw [if_neg h4] at h ⊢
      have h5 := ask_cnt h
      exact ⟨.inr ⟨by omega, h5.1⟩, .inr ⟨h1, h5.2⟩⟩
  rw [if_neg h2] at h ⊢
  by_cases h3 : r.k = 3
  · rw [if_pos h3] at h ⊢
    cases hk : find s.os r.o with
    | none => rw [hk] at h; exact absurd h (by simp)
    | some k =>
      simp only [hk] at h ⊢
      by_cases h4 : (order.stop (s.os.getD k order.oz)).2 ≠ 0
      · rw [if_pos h4] at h; exact absurd h (by simp)
      rw [if_neg h4]
      exact ⟨.inr ⟨by omega, rfl⟩, .inr ⟨h1, rfl⟩⟩
  rw [if_neg h3] at h ⊢
  by_cases h4 : r.k = 4
  · rw [if_pos h4]
    split <;> exact ⟨.inr ⟨by omega, rfl⟩, .inr ⟨h1, rfl⟩⟩
  rw [if_neg h4] at h ⊢
  by_cases h5 : r.k = 5
  · rw [if_pos h5]
    exact ⟨.inr ⟨by omega, rfl⟩, .inr ⟨h1, rfl⟩⟩
  rw [if_neg h5] at h ⊢
  have h6 : r.k = 6 := by omega
  unfold event at h ⊢
  by_cases h7 : r.z - 1 ≠ s.seq
  · rw [if_pos h7] at h; exact absurd h (by simp)
  rw [if_neg h7]
  have e : r.z = s.seq + 1 := by omega
  split
  · exact ⟨.inl ⟨h6, e⟩, .inr ⟨h1, rfl⟩⟩
  · split <;> exact ⟨.inl ⟨h6, e⟩, .inr ⟨h1, rfl⟩⟩
theorem stay_counts {s : St} {r : Rc} (hs : right s = true) (h : (do_ s r).2 = 0) : (do_ s r).1.lsn = s.lsn + 1 ∧ ((r.k = 6 ∧ (do_ s r).1.seq = s.seq + 1) ∨ (¬ r.k = 6 ∧ (do_ s r).1.seq = s.seq)) ∧ ((r.k = 1 ∧ s.last < (do_ s r).1.last) ∨ (¬ r.k = 1 ∧ (do_ s r).1.last = s.last)) := by
  have hw : ¬ Wrong s r := fun hw => by unfold do_ at h; rw [if_pos hw] at h; cases h
  have h2 : (doing s r).2 = 0 := by
    unfold do_ at h
    rw [if_neg hw] at h
    by_cases h3 : (doing s r).2 = 0
    · exact h3
    · rw [if_pos h3] at h; exact absurd h h3
  have e : (do_ s r).1 = { (doing s r).1 with lsn := s.lsn + 1 } := by unfold do_; rw [if_neg hw, if_neg (by simpa using h2)]
  have h4 := doing_cnt (rec.right_kind (not_wrong hw).2.1) h2
  have h5 := (not_wrong hw).2.2.2.2.2
  rw [e]
  refine ⟨rfl, h4.1, ?_⟩
  rcases h4.2 with ⟨g1, g2⟩ | g
  · exact .inl ⟨g1, by show s.last < (doing s r).1.last; rw [g2]; exact h5 g1⟩
  · exact .inr g
theorem walk0 (v : Sv) (s : St) (p1 : Option Addr) (c1 : Nat) (l : List Rc)  (w : World) (h : InS w (Lt w.heap.size) v s) (hx : Elems rdRec 13 w (Lt w.heap.size) p1 l) (hm : l.length ≤ 9223372036854775807) : Calls Try.prog 5 #[.agg (stc v s), .slice p1 l.length c1] w fun e w' => e = .returned (.bool true) ∧ Below w.heap.size w w' :=
  have hlen := h.len
  calls_by (fn := Try.f5) (r := .bool true) (t := .c (.bool true) (.cs (short s) (.k (.cs (right s) (.k (.s .z (.l (Nat × Dat (fun w S (b : Sv × St) => InS w S b.1 b.2) (Lt w.heap.size) w) (fun x => [(1, .slice p1 l.length c1, none), (2, undef, some (0, 0)), (5, .int .i64 (x.1 : Int), none)]) (fun x => [(0, #[.int .i64 x.2.1.2.2.2.a, .int .i64 x.2.1.2.2.2.y, .slice x.2.1.2.2.1.A1 x.2.1.2.2.2.os.length x.2.1.2.2.1.c1, .slice x.2.1.2.2.1.A2 x.2.1.2.2.2.cs.length x.2.1.2.2.1.c2, .slice x.2.1.2.2.1.A3 x.2.1.2.2.2.ls.length x.2.1.2.2.1.c3, .slice x.2.1.2.2.1.A4 x.2.1.2.2.2.ps.length x.2.1.2.2.1.c4, .bool x.2.1.2.2.2.k, .int .i64 x.2.1.2.2.2.last, .int .i64 x.2.1.2.2.2.seq, .int .i64 x.2.1.2.2.2.lsn])]) [0] [poolF w (fun _ => False)] (fun x => [poolF x.2.1.1 x.2.1.2.1]) (fun x => x.1 ≤ l.length ∧ right x.2.1.2.2.2 = true) (fun x => l.length - x.1) ((0, s0d h) : Nat × Dat (fun w S (b : Sv × St) => InS w S b.1 b.2) (Lt w.heap.size) w) (fun y4 => .s (.o [] (.p (blkA p1) (offA p1 + y4.1 * 13) (rec.rc (l.getD y4.1 rz)) (.c (.int .i64 ((do_ y4.2.1.2.2.2 (l.getD y4.1 rz)).2)) (.o [] (.p (blkA p1) (offA p1 + y4.1 * 13) (rec.rc (l.getD y4.1 rz)) (.two (.cm (Dat (fun w S v => InS w S v (do_ y4.2.1.2.2.2 (l.getD y4.1 rz)).1) (fun k => Lt w.heap.size k ∨ y4.2.1.2.1 k) y4.2.1.1) (fun x => .tuple #[.agg (stc x.1.2.2 ((do_ y4.2.1.2.2.2 (l.getD y4.1 rz)).1)), .int .i64 ((do_ y4.2.1.2.2.2 (l.getD y4.1 rz)).2)]) (fun x => [poolF x.1.1 x.1.2.1]) (fun x8 => .m false (.k (.cs (right ((do_ y4.2.1.2.2.2 (l.getD y4.1 rz)).1)) (.s (.cs (decide (y4.2.1.2.2.2 = ((do_ y4.2.1.2.2.2 (l.getD y4.1 rz)).1))) (.e (.int .i64 ((y4.1 + 1 : Nat) : Int)) .z) .z) (.o [] (.e (.int .i64 (y4.2.1.2.2.2.lsn + 1)) (.s (.k (.k .z)) (.k (.s (.p (blkA p1) (offA p1 + y4.1 * 13) (rec.rc (l.getD y4.1 rz)) (.s (.k (.k (.s (.p (blkA p1) (offA p1 + y4.1 * 13) (rec.rc (l.getD y4.1 rz)) (.m false (.k .z))) (.p (blkA p1) (offA p1 + y4.1 * 13) (rec.rc (l.getD y4.1 rz)) (.m false (.k (.e (.int .i64 ((y4.1 + 1 : Nat) : Int)) .z))))))) (.k (.k .z)))) (.p (blkA p1) (offA p1 + y4.1 * 13) (rec.rc (l.getD y4.1 rz)) (.s (.k (.k .z)) (.k (.k (.s (.p (blkA p1) (offA p1 + y4.1 * 13) (rec.rc (l.getD y4.1 rz)) (.s (.k (.e (.int .i64 ((y4.1 + 1 : Nat) : Int)) .z)) (.k .z))) (.p (blkA p1) (offA p1 + y4.1 * 13) (rec.rc (l.getD y4.1 rz)) (.s (.k .z) (.k (.e (.int .i64 ((y4.1 + 1 : Nat) : Int)) .z))))))))))))))) .z)))) (.cm (Dat (fun w S v => InS w S v (do_ y4.2.1.2.2.2 (l.getD y4.1 rz)).1) (fun k => Lt w.heap.size k ∨ y4.2.1.2.1 k) y4.2.1.1) (fun x => .tuple #[.agg (stc x.1.2.2 ((do_ y4.2.1.2.2.2 (l.getD y4.1 rz)).1)), .int .i64 ((do_ y4.2.1.2.2.2 (l.getD y4.1 rz)).2)]) (fun x => [poolF x.1.1 x.1.2.1]) (fun x20 => .m false (.k (.cs (right ((do_ y4.2.1.2.2.2 (l.getD y4.1 rz)).1)) (.s (.cs (decide (y4.2.1.2.2.2 = ((do_ y4.2.1.2.2.2 (l.getD y4.1 rz)).1))) (.e (.int .i64 ((y4.1 + 1 : Nat) : Int)) .z) .z) (.o [] (.e (.int .i64 (y4.2.1.2.2.2.lsn + 1)) (.s (.k (.k .z)) (.k (.s (.p (blkA p1) (offA p1 + y4.1 * 13) (rec.rc (l.getD y4.1 rz)) (.s (.k (.k (.s (.p (blkA p1) (offA p1 + y4.1 * 13) (rec.rc (l.getD y4.1 rz)) (.m false (.k .z))) (.p (blkA p1) (offA p1 + y4.1 * 13) (rec.rc (l.getD y4.1 rz)) (.m false (.k (.e (.int .i64 ((y4.1 + 1 : Nat) : Int)) .z))))))) (.k (.k .z)))) (.p (blkA p1) (offA p1 + y4.1 * 13) (rec.rc (l.getD y4.1 rz)) (.s (.k (.k .z)) (.k (.k (.s (.p (blkA p1) (offA p1 + y4.1 * 13) (rec.rc (l.getD y4.1 rz)) (.s (.k (.e (.int .i64 ((y4.1 + 1 : Nat) : Int)) .z)) (.k .z))) (.p (blkA p1) (offA p1 + y4.1 * 13) (rec.rc (l.getD y4.1 rz)) (.s (.k .z) (.k (.e (.int .i64 ((y4.1 + 1 : Nat) : Int)) .z))))))))))))))) .z)))))))))) .z)))) (.k .z))) (.k (.k .z)))) (X :=
∀ g0 : Nat, Gives Try.prog w [] 7 #[] (.bool true) ∧ Gives Try.prog w [] 8 #[.agg (stc v s)] (.bool (short s)) ∧ ((short s) = true → Gives Try.prog w [] 9 #[.agg (stc v s)] (.bool (right s)) ∧ ((right s) = true → ((decide ((l.length : Int) > 60)) = true → (.bool true : Value) = .bool true) ∧ ((decide ((l.length : Int) > 60)) = false → Brings w [] [poolF w (fun _ => False)] ∧ (((0, s0d h) : Nat × Dat (fun w S (b : Sv × St) => InS w S b.1 b.2) (Lt w.heap.size) w).1 ≤ l.length ∧ right ((0, s0d h) : Nat × Dat (fun w S (b : Sv × St) => InS w S b.1 b.2) (Lt w.heap.size) w).2.1.2.2.2 = true) ∧ (([.slice p1 l.length c1, .pointer (some ⟨g0, 0, none⟩), .int .i64 0] : List Value) = [.slice p1 l.length c1, .pointer (some ⟨g0, 0, none⟩), .int .i64 (((0, s0d h) : Nat × Dat (fun w S (b : Sv × St) => InS w S b.1 b.2) (Lt w.heap.size) w).1 : Int)] ∧ ([some ⟨g0, 0, (stc v s), .own 27⟩] : List (Option Blk)) = [some ⟨g0, 0, #[.int .i64 (((0, s0d h) : Nat × Dat (fun w S (b : Sv × St) => InS w S b.1 b.2) (Lt w.heap.size) w).2.1.2.2.2.a), .int .i64 (((0, s0d h) : Nat × Dat (fun w S (b : Sv × St) => InS w S b.1 b.2) (Lt w.heap.size) w).2.1.2.2.2.y), .slice (((0, s0d h) : Nat × Dat (fun w S (b : Sv × St) => InS w S b.1 b.2) (Lt w.heap.size) w).2.1.2.2.1.A1) (((0, s0d h) : Nat × Dat (fun w S (b : Sv × St) => InS w S b.1 b.2) (Lt w.heap.size) w).2.1.2.2.2.os.length) (((0, s0d h) : Nat × Dat (fun w S (b : Sv × St) => InS w S b.1 b.2) (Lt w.heap.size) w).2.1.2.2.1.c1), .slice (((0, s0d h) : Nat × Dat (fun w S (b : Sv × St) => InS w S b.1 b.2) (Lt w.heap.size) w).2.1.2.2.1.A2) (((0, s0d h) : Nat × Dat (fun w S (b : Sv × St) => InS w S b.1 b.2) (Lt w.heap.size) w).2.1.2.2.2.cs.length) (((0, s0d h) : Nat × Dat (fun w S (b : Sv × St) => InS w S b.1 b.2) (Lt w.heap.size) w).2.1.2.2.1.c2), .slice (((0, s0d h) : Nat × Dat (fun w S (b : Sv × St) => InS w S b.1 b.2) (Lt w.heap.size) w).2.1.2.2.1.A3) (((0, s0d h) : Nat × Dat (fun w S (b : Sv × St) => InS w S b.1 b.2) (Lt w.heap.size) w).2.1.2.2.2.ls.length) (((0, s0d h) : Nat × Dat (fun w S (b : Sv × St) => InS w S b.1 b.2) (Lt w.heap.size) w).2.1.2.2.1.c3), .slice (((0, s0d h) : Nat × Dat (fun w S (b : Sv × St) => InS w S b.1 b.2) (Lt w.heap.size) w).2.1.2.2.1.A4) (((0, s0d h) : Nat × Dat (fun w S (b : Sv × St) => InS w S b.1 b.2) (Lt w.heap.size) w).2.1.2.2.2.ps.length) (((0, s0d h) : Nat × Dat (fun w S (b : Sv × St) => InS w S b.1 b.2) (Lt w.heap.size) w).2.1.2.2.1.c4), .bool (((0, s0d h) : Nat × Dat (fun w S (b : Sv × St) => InS w S b.1 b.2) (Lt w.heap.size) w).2.1.2.2.2.k), .int .i64 (((0, s0d h) : Nat × Dat (fun w S (b : Sv × St) => InS w S b.1 b.2) (Lt w.heap.size) w).2.1.2.2.2.last), .int .i64 (((0, s0d h) : Nat × Dat (fun w S (b : Sv × St) => InS w S b.1 b.2) (Lt w.heap.size) w).2.1.2.2.2.seq), .int .i64 (((0, s0d h) : Nat × Dat (fun w S (b : Sv × St) => InS w S b.1 b.2) (Lt w.heap.size) w).2.1.2.2.2.lsn)], .own 27⟩] ∧ Turns w [poolF w (fun _ => False)] [poolF ((0, s0d h) : Nat × Dat (fun w S (b : Sv × St) => InS w S b.1 b.2) (Lt w.heap.size) w).2.1.1 ((0, s0d h) : Nat × Dat (fun w S (b : Sv × St) => InS w S b.1 b.2) (Lt w.heap.size) w).2.1.2.1]) ∧ true = true ∧ ∀ (y4 : Nat × Dat (fun w S (b : Sv × St) => InS w S b.1 b.2) (Lt w.heap.size) w), (y4.1 ≤ l.length ∧ right y4.2.1.2.2.2 = true) → ∀ τ6 : Nat → Value, ((decide ((y4.1 : Int) < (l.length : Int))) = true → Yields0 Try.prog w [poolF y4.2.1.1 y4.2.1.2.1] (Instr.indexAt 52 (.slice p1 l.length c1) (.int .i64 (y4.1 : Int))) (.pointer (some ⟨blkA p1, offA p1 + y4.1 * 13, none⟩)) ∧ Reads0 w [] (blkA p1) (offA p1 + y4.1 * 13) (rec.rc (l.getD y4.1 rz)) ∧ Gives Try.prog w [poolF y4.2.1.1 y4.2.1.2.1] 19 #[.agg (stc y4.2.1.2.2.1 y4.2.1.2.2.2), .agg (rec.rc (l.getD y4.1 rz))] (.int .i64 ((do_ y4.2.1.2.2.2 (l.getD y4.1 rz)).2)) ∧ Yields0 Try.prog w [poolF y4.2.1.1 y4.2.1.2.1] (Instr.indexAt 52 (.slice p1 l.length c1) (.int .i64 (y4.1 : Int))) (.pointer (some ⟨blkA p1, offA p1 + y4.1 * 13, none⟩)) ∧ Reads0 w [] (blkA p1) (offA p1 + y4.1 * 13) (rec.rc (l.getD y4.1 rz)) ∧ (GivesM Try.prog w [poolF y4.2.1.1 y4.2.1.2.1] 10 #[.agg (stc y4.2.1.2.2.1 y4.2.1.2.2.2), .agg (rec.rc (l.getD y4.1 rz))] (Dat (fun w S v => InS w S v (do_ y4.2.1.2.2.2 (l.getD y4.1 rz)).1) (fun k => Lt w.heap.size k ∨ y4.2.1.2.1 k) y4.2.1.1) (fun x => .tuple #[.agg (stc x.1.2.2 ((do_ y4.2.1.2.2.2 (l.getD y4.1 rz)).1)), .int .i64 ((do_ y4.2.1.2.2.2 (l.getD y4.1 rz)).2)]) (fun x => [poolF x.1.1 x.1.2.1]) ∧ ∀ x8 : Dat (fun w S v => InS w S v (do_ y4.2.1.2.2.2 (l.getD y4.1 rz)).1) (fun k => Lt w.heap.size k ∨ y4.2.1.2.1 k) y4.2.1.1, ∀ g3 : Nat, (!decide (((do_ y4.2.1.2.2.2 (l.getD y4.1 rz)).2) = ((do_ y4.2.1.2.2.2 (l.getD y4.1 rz)).2))) = false ∧ Gives Try.prog w [poolF x8.1.1 x8.1.2.1, poolF y4.2.1.1 y4.2.1.2.1] 9 #[.agg (stc x8.1.2.2 ((do_ y4.2.1.2.2.2 (l.getD y4.1 rz)).1))] (.bool (right ((do_ y4.2.1.2.2.2 (l.getD y4.1 rz)).1))) ∧ ((right ((do_ y4.2.1.2.2.2 (l.getD y4.1 rz)).1)) = true → ((!decide (((do_ y4.2.1.2.2.2 (l.getD y4.1 rz)).2) = 0)) = true → Gives Try.prog w [poolF x8.1.1 x8.1.2.1, poolF y4.2.1.1 y4.2.1.2.1] 11 #[.agg (stc y4.2.1.2.2.1 y4.2.1.2.2.2), .agg (stc x8.1.2.2 ((do_ y4.2.1.2.2.2 (l.getD y4.1 rz)).1))] (.bool (decide (y4.2.1.2.2.2 = ((do_ y4.2.1.2.2.2 (l.getD y4.1 rz)).1)))) ∧ ((decide (y4.2.1.2.2.2 = ((do_ y4.2.1.2.2.2 (l.getD y4.1 rz)).1))) = true → (.int .i64 (IntKind.i64.wrap ((y4.1 : Int) + 1)) : Value) = .int .i64 ((y4.1 + 1 : Nat) : Int) ∧ ∃ x' : Nat × Dat (fun w S (b : Sv × St) => InS w S b.1 b.2) (Lt w.heap.size) w, (x'.1 ≤ l.length ∧ right x'.2.1.2.2.2 = true) ∧ (l.length - x'.1 < l.length - y4.1) ∧ (([.slice p1 l.length c1, .pointer (some ⟨g0, 0, none⟩), .int .i64 ((y4.1 + 1 : Nat) : Int)] : List Value) = [.slice p1 l.length c1, .pointer (some ⟨g0, 0, none⟩), .int .i64 (x'.1 : Int)] ∧ ([some ⟨g0, 0, (stc y4.2.1.2.2.1 y4.2.1.2.2.2), .own 27⟩] : List (Option Blk)) = [some ⟨g0, 0, #[.int .i64 x'.2.1.2.2.2.a, .int .i64 x'.2.1.2.2.2.y, .slice x'.2.1.2.2.1.A1 x'.2.1.2.2.2.os.length x'.2.1.2.2.1.c1, .slice x'.2.1.2.2.1.A2 x'.2.1.2.2.2.cs.length x'.2.1.2.2.1.c2, .slice x'.2.1.2.2.1.A3 x'.2.1.2.2.2.ls.length x'.2.1.2.2.1.c3, .slice x'.2.1.2.2.1.A4 x'.2.1.2.2.2.ps.length x'.2.1.2.2.1.c4, .bool x'.2.1.2.2.2.k, .int .i64 x'.2.1.2.2.2.last, .int .i64 x'.2.1.2.2.2.seq, .int .i64 x'.2.1.2.2.2.lsn], .own 27⟩] ∧ Turns w [poolF x8.1.1 x8.1.2.1, poolF y4.2.1.1 y4.2.1.2.1] [poolF x'.2.1.1 x'.2.1.2.1]) ∧ true = true) ∧ ((decide (y4.2.1.2.2.2 = ((do_ y4.2.1.2.2.2 (l.getD y4.1 rz)).1))) = false → (.bool false : Value) = .bool true)) ∧ ((!decide (((do_ y4.2.1.2.2.2 (l.getD y4.1 rz)).2) = 0)) = false → (.int .i64 (IntKind.i64.wrap (y4.2.1.2.2.2.lsn + 1)) : Value) = .int .i64 (y4.2.1.2.2.2.lsn + 1) ∧ ((!decide ((do_ y4.2.1.2.2.2 (l.getD y4.1 rz)).1.lsn = (y4.2.1.2.2.2.lsn + 1))) = true → (.bool false : Value) = .bool true) ∧ ((!decide ((do_ y4.2.1.2.2.2 (l.getD y4.1 rz)).1.lsn = (y4.2.1.2.2.2.lsn + 1))) = false → ((!decide ((do_ y4.2.1.2.2.2 (l.getD y4.1 rz)).1.seq = y4.2.1.2.2.2.seq)) = true → Yields0 Try.prog w [poolF x8.1.1 x8.1.2.1, poolF y4.2.1.1 y4.2.1.2.1] (Instr.indexAt 52 (.slice p1 l.length c1) (.int .i64 (y4.1 : Int))) (.pointer (some ⟨blkA p1, offA p1 + y4.1 * 13, none⟩)) ∧ Reads0 w [] (blkA p1) (offA p1 + y4.1 * 13) (rec.rc (l.getD y4.1 rz)) ∧ ((decide ((l.getD y4.1 rz).k = 6)) = true → ((!decide ((do_ y4.2.1.2.2.2 (l.getD y4.1 rz)).1.last = y4.2.1.2.2.2.last)) = true → Yields0 Try.prog w [poolF x8.1.1 x8.1.2.1, poolF y4.2.1.1 y4.2.1.2.1] (Instr.indexAt 52 (.slice p1 l.length c1) (.int .i64 (y4.1 : Int))) (.pointer (some ⟨blkA p1, offA p1 + y4.1 * 13, none⟩)) ∧ Reads0 w [] (blkA p1) (offA p1 + y4.1 * 13) (rec.rc (l.getD y4.1 rz)) ∧ (decide ((l.getD y4.1 rz).k = 1)) = false ∧ (.bool false : Value) = .bool true) ∧ ((!decide ((do_ y4.2.1.2.2.2 (l.getD y4.1 rz)).1.last = y4.2.1.2.2.2.last)) = false → Yields0 Try.prog w [poolF x8.1.1 x8.1.2.1, poolF y4.2.1.1 y4.2.1.2.1] (Instr.indexAt 52 (.slice p1 l.length c1) (.int .i64 (y4.1 : Int))) (.pointer (some ⟨blkA p1, offA p1 + y4.1 * 13, none⟩)) ∧ Reads0 w [] (blkA p1) (offA p1 + y4.1 * 13) (rec.rc (l.getD y4.1 rz)) ∧ (decide ((l.getD y4.1 rz).k = 1)) = false ∧ (.int .i64 (IntKind.i64.wrap ((y4.1 : Int) + 1)) : Value) = .int .i64 ((y4.1 + 1 : Nat) : Int) ∧ ∃ x' : Nat × Dat (fun w S (b : Sv × St) => InS w S b.1 b.2) (Lt w.heap.size) w, (x'.1 ≤ l.length ∧ right x'.2.1.2.2.2 = true) ∧ (l.length - x'.1 < l.length - y4.1) ∧ (([.slice p1 l.length c1, .pointer (some ⟨g0, 0, none⟩), .int .i64 ((y4.1 + 1 : Nat) : Int)] : List Value) = [.slice p1 l.length c1, .pointer (some ⟨g0, 0, none⟩), .int .i64 (x'.1 : Int)] ∧ ([some ⟨g0, 0, (stc x8.1.2.2 ((do_ y4.2.1.2.2.2 (l.getD y4.1 rz)).1)), .own 27⟩] : List (Option Blk)) = [some ⟨g0, 0, #[.int .i64 x'.2.1.2.2.2.a, .int .i64 x'.2.1.2.2.2.y, .slice x'.2.1.2.2.1.A1 x'.2.1.2.2.2.os.length x'.2.1.2.2.1.c1, .slice x'.2.1.2.2.1.A2 x'.2.1.2.2.2.cs.length x'.2.1.2.2.1.c2, .slice x'.2.1.2.2.1.A3 x'.2.1.2.2.2.ls.length x'.2.1.2.2.1.c3, .slice x'.2.1.2.2.1.A4 x'.2.1.2.2.2.ps.length x'.2.1.2.2.1.c4, .bool x'.2.1.2.2.2.k, .int .i64 x'.2.1.2.2.2.last, .int .i64 x'.2.1.2.2.2.seq, .int .i64 x'.2.1.2.2.2.lsn], .own 27⟩] ∧ Turns w [poolF x8.1.1 x8.1.2.1, poolF y4.2.1.1 y4.2.1.2.1] [poolF x'.2.1.1 x'.2.1.2.1]) ∧ true = true)) ∧ ((decide ((l.getD y4.1 rz).k = 6)) = false → (.bool false : Value) = .bool true)) ∧ ((!decide ((do_ y4.2.1.2.2.2 (l.getD y4.1 rz)).1.seq = y4.2.1.2.2.2.seq)) = false → Yields0 Try.prog w [poolF x8.1.1 x8.1.2.1, poolF y4.2.1.1 y4.2.1.2.1] (Instr.indexAt 52 (.slice p1 l.length c1) (.int .i64 (y4.1 : Int))) (.pointer (some ⟨blkA p1, offA p1 + y4.1 * 13, none⟩)) ∧ Reads0 w [] (blkA p1) (offA p1 + y4.1 * 13) (rec.rc (l.getD y4.1 rz)) ∧ ((decide ((l.getD y4.1 rz).k = 6)) = true → (.bool false : Value) = .bool true) ∧ ((decide ((l.getD y4.1 rz).k = 6)) = false → ((!decide ((do_ y4.2.1.2.2.2 (l.getD y4.1 rz)).1.last = y4.2.1.2.2.2.last)) = true → Yields0 Try.prog w [poolF x8.1.1 x8.1.2.1, poolF y4.2.1.1 y4.2.1.2.1] (Instr.indexAt 52 (.slice p1 l.length c1) (.int .i64 (y4.1 : Int))) (.pointer (some ⟨blkA p1, offA p1 + y4.1 * 13, none⟩)) ∧ Reads0 w [] (blkA p1) (offA p1 + y4.1 * 13) (rec.rc (l.getD y4.1 rz)) ∧ ((decide ((l.getD y4.1 rz).k = 1)) = true → (.int .i64 (IntKind.i64.wrap ((y4.1 : Int) + 1)) : Value) = .int .i64 ((y4.1 + 1 : Nat) : Int) ∧ ∃ x' : Nat × Dat (fun w S (b : Sv × St) => InS w S b.1 b.2) (Lt w.heap.size) w, (x'.1 ≤ l.length ∧ right x'.2.1.2.2.2 = true) ∧ (l.length - x'.1 < l.length - y4.1) ∧ (([.slice p1 l.length c1, .pointer (some ⟨g0, 0, none⟩), .int .i64 ((y4.1 + 1 : Nat) : Int)] : List Value) = [.slice p1 l.length c1, .pointer (some ⟨g0, 0, none⟩), .int .i64 (x'.1 : Int)] ∧ ([some ⟨g0, 0, (stc x8.1.2.2 ((do_ y4.2.1.2.2.2 (l.getD y4.1 rz)).1)), .own 27⟩] : List (Option Blk)) = [some ⟨g0, 0, #[.int .i64 x'.2.1.2.2.2.a, .int .i64 x'.2.1.2.2.2.y, .slice x'.2.1.2.2.1.A1 x'.2.1.2.2.2.os.length x'.2.1.2.2.1.c1, .slice x'.2.1.2.2.1.A2 x'.2.1.2.2.2.cs.length x'.2.1.2.2.1.c2, .slice x'.2.1.2.2.1.A3 x'.2.1.2.2.2.ls.length x'.2.1.2.2.1.c3, .slice x'.2.1.2.2.1.A4 x'.2.1.2.2.2.ps.length x'.2.1.2.2.1.c4, .bool x'.2.1.2.2.2.k, .int .i64 x'.2.1.2.2.2.last, .int .i64 x'.2.1.2.2.2.seq, .int .i64 x'.2.1.2.2.2.lsn], .own 27⟩] ∧ Turns w [poolF x8.1.1 x8.1.2.1, poolF y4.2.1.1 y4.2.1.2.1] [poolF x'.2.1.1 x'.2.1.2.1]) ∧ true = true) ∧ ((decide ((l.getD y4.1 rz).k = 1)) = false → (.bool false : Value) = .bool true)) ∧ ((!decide ((do_ y4.2.1.2.2.2 (l.getD y4.1 rz)).1.last = y4.2.1.2.2.2.last)) = false → Yields0 Try.prog w [poolF x8.1.1 x8.1.2.1, poolF y4.2.1.1 y4.2.1.2.1] (Instr.indexAt 52 (.slice p1 l.length c1) (.int .i64 (y4.1 : Int))) (.pointer (some ⟨blkA p1, offA p1 + y4.1 * 13, none⟩)) ∧ Reads0 w [] (blkA p1) (offA p1 + y4.1 * 13) (rec.rc (l.getD y4.1 rz)) ∧ ((decide ((l.getD y4.1 rz).k = 1)) = true → (.bool false : Value) = .bool true) ∧ ((decide ((l.getD y4.1 rz).k = 1)) = false → (.int .i64 (IntKind.i64.wrap ((y4.1 : Int) + 1)) : Value) = .int .i64 ((y4.1 + 1 : Nat) : Int) ∧ ∃ x' : Nat × Dat (fun w S (b : Sv × St) => InS w S b.1 b.2) (Lt w.heap.size) w, (x'.1 ≤ l.length ∧ right x'.2.1.2.2.2 = true) ∧ (l.length - x'.1 < l.length - y4.1) ∧ (([.slice p1 l.length c1, .pointer (some ⟨g0, 0, none⟩), .int .i64 ((y4.1 + 1 : Nat) : Int)] : List Value) = [.slice p1 l.length c1, .pointer (some ⟨g0, 0, none⟩), .int .i64 (x'.1 : Int)] ∧ ([some ⟨g0, 0, (stc x8.1.2.2 ((do_ y4.2.1.2.2.2 (l.getD y4.1 rz)).1)), .own 27⟩] : List (Option Blk)) = [some ⟨g0, 0, #[.int .i64 x'.2.1.2.2.2.a, .int .i64 x'.2.1.2.2.2.y, .slice x'.2.1.2.2.1.A1 x'.2.1.2.2.2.os.length x'.2.1.2.2.1.c1, .slice x'.2.1.2.2.1.A2 x'.2.1.2.2.2.cs.length x'.2.1.2.2.1.c2, .slice x'.2.1.2.2.1.A3 x'.2.1.2.2.2.ls.length x'.2.1.2.2.1.c3, .slice x'.2.1.2.2.1.A4 x'.2.1.2.2.2.ps.length x'.2.1.2.2.1.c4, .bool x'.2.1.2.2.2.k, .int .i64 x'.2.1.2.2.2.last, .int .i64 x'.2.1.2.2.2.seq, .int .i64 x'.2.1.2.2.2.lsn], .own 27⟩] ∧ Turns w [poolF x8.1.1 x8.1.2.1, poolF y4.2.1.1 y4.2.1.2.1] [poolF x'.2.1.1 x'.2.1.2.1]) ∧ true = true))))))) ∧ ((right ((do_ y4.2.1.2.2.2 (l.getD y4.1 rz)).1)) = false → (.bool false : Value) = .bool true)) ∧ (∀ g3 : Nat, GivesM Try.prog w [poolF y4.2.1.1 y4.2.1.2.1] 10 #[.agg (stc y4.2.1.2.2.1 y4.2.1.2.2.2), .agg (rec.rc (l.getD y4.1 rz))] (Dat (fun w S v => InS w S v (do_ y4.2.1.2.2.2 (l.getD y4.1 rz)).1) (fun k => Lt w.heap.size k ∨ y4.2.1.2.1 k) y4.2.1.1) (fun x => .tuple #[.agg (stc x.1.2.2 ((do_ y4.2.1.2.2.2 (l.getD y4.1 rz)).1)), .int .i64 ((do_ y4.2.1.2.2.2 (l.getD y4.1 rz)).2)]) (fun x => [poolF x.1.1 x.1.2.1]) ∧ ∀ x20 : Dat (fun w S v => InS w S v (do_ y4.2.1.2.2.2 (l.getD y4.1 rz)).1) (fun k => Lt w.heap.size k ∨ y4.2.1.2.1 k) y4.2.1.1, (!decide (((do_ y4.2.1.2.2.2 (l.getD y4.1 rz)).2) = ((do_ y4.2.1.2.2.2 (l.getD y4.1 rz)).2))) = false ∧ Gives Try.prog w [poolF x20.1.1 x20.1.2.1, poolF y4.2.1.1 y4.2.1.2.1] 9 #[.agg (stc x20.1.2.2 ((do_ y4.2.1.2.2.2 (l.getD y4.1 rz)).1))] (.bool (right ((do_ y4.2.1.2.2.2 (l.getD y4.1 rz)).1))) ∧ ((right ((do_ y4.2.1.2.2.2 (l.getD y4.1 rz)).1)) = true → ((!decide (((do_ y4.2.1.2.2.2 (l.getD y4.1 rz)).2) = 0)) = true → Gives Try.prog w [poolF x20.1.1 x20.1.2.1, poolF y4.2.1.1 y4.2.1.2.1] 11 #[.agg (stc y4.2.1.2.2.1 y4.2.1.2.2.2), .agg (stc x20.1.2.2 ((do_ y4.2.1.2.2.2 (l.getD y4.1 rz)).1))] (.bool (decide (y4.2.1.2.2.2 = ((do_ y4.2.1.2.2.2 (l.getD y4.1 rz)).1)))) ∧ ((decide (y4.2.1.2.2.2 = ((do_ y4.2.1.2.2.2 (l.getD y4.1 rz)).1))) = true → (.int .i64 (IntKind.i64.wrap ((y4.1 : Int) + 1)) : Value) = .int .i64 ((y4.1 + 1 : Nat) : Int) ∧ ∃ x' : Nat × Dat (fun w S (b : Sv × St) => InS w S b.1 b.2) (Lt w.heap.size) w, (x'.1 ≤ l.length ∧ right x'.2.1.2.2.2 = true) ∧ (l.length - x'.1 < l.length - y4.1) ∧ (([.slice p1 l.length c1, .pointer (some ⟨g0, 0, none⟩), .int .i64 ((y4.1 + 1 : Nat) : Int)] : List Value) = [.slice p1 l.length c1, .pointer (some ⟨g0, 0, none⟩), .int .i64 (x'.1 : Int)] ∧ ([some ⟨g0, 0, (stc y4.2.1.2.2.1 y4.2.1.2.2.2), .own 27⟩] : List (Option Blk)) = [some ⟨g0, 0, #[.int .i64 x'.2.1.2.2.2.a, .int .i64 x'.2.1.2.2.2.y, .slice x'.2.1.2.2.1.A1 x'.2.1.2.2.2.os.length x'.2.1.2.2.1.c1, .slice x'.2.1.2.2.1.A2 x'.2.1.2.2.2.cs.length x'.2.1.2.2.1.c2, .slice x'.2.1.2.2.1.A3 x'.2.1.2.2.2.ls.length x'.2.1.2.2.1.c3, .slice x'.2.1.2.2.1.A4 x'.2.1.2.2.2.ps.length x'.2.1.2.2.1.c4, .bool x'.2.1.2.2.2.k, .int .i64 x'.2.1.2.2.2.last, .int .i64 x'.2.1.2.2.2.seq, .int .i64 x'.2.1.2.2.2.lsn], .own 27⟩] ∧ Turns w [poolF x20.1.1 x20.1.2.1, poolF y4.2.1.1 y4.2.1.2.1] [poolF x'.2.1.1 x'.2.1.2.1]) ∧ true = true) ∧ ((decide (y4.2.1.2.2.2 = ((do_ y4.2.1.2.2.2 (l.getD y4.1 rz)).1))) = false → (.bool false : Value) = .bool true)) ∧ ((!decide (((do_ y4.2.1.2.2.2 (l.getD y4.1 rz)).2) = 0)) = false → (.int .i64 (IntKind.i64.wrap (y4.2.1.2.2.2.lsn + 1)) : Value) = .int .i64 (y4.2.1.2.2.2.lsn + 1) ∧ ((!decide ((do_ y4.2.1.2.2.2 (l.getD y4.1 rz)).1.lsn = (y4.2.1.2.2.2.lsn + 1))) = true → (.bool false : Value) = .bool true) ∧ ((!decide ((do_ y4.2.1.2.2.2 (l.getD y4.1 rz)).1.lsn = (y4.2.1.2.2.2.lsn + 1))) = false → ((!decide ((do_ y4.2.1.2.2.2 (l.getD y4.1 rz)).1.seq = y4.2.1.2.2.2.seq)) = true → Yields0 Try.prog w [poolF x20.1.1 x20.1.2.1, poolF y4.2.1.1 y4.2.1.2.1] (Instr.indexAt 52 (.slice p1 l.length c1) (.int .i64 (y4.1 : Int))) (.pointer (some ⟨blkA p1, offA p1 + y4.1 * 13, none⟩)) ∧ Reads0 w [] (blkA p1) (offA p1 + y4.1 * 13) (rec.rc (l.getD y4.1 rz)) ∧ ((decide ((l.getD y4.1 rz).k = 6)) = true → ((!decide ((do_ y4.2.1.2.2.2 (l.getD y4.1 rz)).1.last = y4.2.1.2.2.2.last)) = true → Yields0 Try.prog w [poolF x20.1.1 x20.1.2.1, poolF y4.2.1.1 y4.2.1.2.1] (Instr.indexAt 52 (.slice p1 l.length c1) (.int .i64 (y4.1 : Int))) (.pointer (some ⟨blkA p1, offA p1 + y4.1 * 13, none⟩)) ∧ Reads0 w [] (blkA p1) (offA p1 + y4.1 * 13) (rec.rc (l.getD y4.1 rz)) ∧ (decide ((l.getD y4.1 rz).k = 1)) = false ∧ (.bool false : Value) = .bool true) ∧ ((!decide ((do_ y4.2.1.2.2.2 (l.getD y4.1 rz)).1.last = y4.2.1.2.2.2.last)) = false → Yields0 Try.prog w [poolF x20.1.1 x20.1.2.1, poolF y4.2.1.1 y4.2.1.2.1] (Instr.indexAt 52 (.slice p1 l.length c1) (.int .i64 (y4.1 : Int))) (.pointer (some ⟨blkA p1, offA p1 + y4.1 * 13, none⟩)) ∧ Reads0 w [] (blkA p1) (offA p1 + y4.1 * 13) (rec.rc (l.getD y4.1 rz)) ∧ (decide ((l.getD y4.1 rz).k = 1)) = false ∧ (.int .i64 (IntKind.i64.wrap ((y4.1 : Int) + 1)) : Value) = .int .i64 ((y4.1 + 1 : Nat) : Int) ∧ ∃ x' : Nat × Dat (fun w S (b : Sv × St) => InS w S b.1 b.2) (Lt w.heap.size) w, (x'.1 ≤ l.length ∧ right x'.2.1.2.2.2 = true) ∧ (l.length - x'.1 < l.length - y4.1) ∧ (([.slice p1 l.length c1, .pointer (some ⟨g0, 0, none⟩), .int .i64 ((y4.1 + 1 : Nat) : Int)] : List Value) = [.slice p1 l.length c1, .pointer (some ⟨g0, 0, none⟩), .int .i64 (x'.1 : Int)] ∧ ([some ⟨g0, 0, (stc x20.1.2.2 ((do_ y4.2.1.2.2.2 (l.getD y4.1 rz)).1)), .own 27⟩] : List (Option Blk)) = [some ⟨g0, 0, #[.int .i64 x'.2.1.2.2.2.a, .int .i64 x'.2.1.2.2.2.y, .slice x'.2.1.2.2.1.A1 x'.2.1.2.2.2.os.length x'.2.1.2.2.1.c1, .slice x'.2.1.2.2.1.A2 x'.2.1.2.2.2.cs.length x'.2.1.2.2.1.c2, .slice x'.2.1.2.2.1.A3 x'.2.1.2.2.2.ls.length x'.2.1.2.2.1.c3, .slice x'.2.1.2.2.1.A4 x'.2.1.2.2.2.ps.length x'.2.1.2.2.1.c4, .bool x'.2.1.2.2.2.k, .int .i64 x'.2.1.2.2.2.last, .int .i64 x'.2.1.2.2.2.seq, .int .i64 x'.2.1.2.2.2.lsn], .own 27⟩] ∧ Turns w [poolF x20.1.1 x20.1.2.1, poolF y4.2.1.1 y4.2.1.2.1] [poolF x'.2.1.1 x'.2.1.2.1]) ∧ true = true)) ∧ ((decide ((l.getD y4.1 rz).k = 6)) = false → (.bool false : Value) = .bool true)) ∧ ((!decide ((do_ y4.2.1.2.2.2 (l.getD y4.1 rz)).1.seq = y4.2.1.2.2.2.seq)) = false → Yields0 Try.prog w [poolF x20.1.1 x20.1.2.1, poolF y4.2.1.1 y4.2.1.2.1] (Instr.indexAt 52 (.slice p1 l.length c1) (.int .i64 (y4.1 : Int))) (.pointer (some ⟨blkA p1, offA p1 + y4.1 * 13, none⟩)) ∧ Reads0 w [] (blkA p1) (offA p1 + y4.1 * 13) (rec.rc (l.getD y4.1 rz)) ∧ ((decide ((l.getD y4.1 rz).k = 6)) = true → (.bool false : Value) = .bool true) ∧ ((decide ((l.getD y4.1 rz).k = 6)) = false → ((!decide ((do_ y4.2.1.2.2.2 (l.getD y4.1 rz)).1.last = y4.2.1.2.2.2.last)) = true → Yields0 Try.prog w [poolF x20.1.1 x20.1.2.1, poolF y4.2.1.1 y4.2.1.2.1] (Instr.indexAt 52 (.slice p1 l.length c1) (.int .i64 (y4.1 : Int))) (.pointer (some ⟨blkA p1, offA p1 + y4.1 * 13, none⟩)) ∧ Reads0 w [] (blkA p1) (offA p1 + y4.1 * 13) (rec.rc (l.getD y4.1 rz)) ∧ ((decide ((l.getD y4.1 rz).k = 1)) = true → (.int .i64 (IntKind.i64.wrap ((y4.1 : Int) + 1)) : Value) = .int .i64 ((y4.1 + 1 : Nat) : Int) ∧ ∃ x' : Nat × Dat (fun w S (b : Sv × St) => InS w S b.1 b.2) (Lt w.heap.size) w, (x'.1 ≤ l.length ∧ right x'.2.1.2.2.2 = true) ∧ (l.length - x'.1 < l.length - y4.1) ∧ (([.slice p1 l.length c1, .pointer (some ⟨g0, 0, none⟩), .int .i64 ((y4.1 + 1 : Nat) : Int)] : List Value) = [.slice p1 l.length c1, .pointer (some ⟨g0, 0, none⟩), .int .i64 (x'.1 : Int)] ∧ ([some ⟨g0, 0, (stc x20.1.2.2 ((do_ y4.2.1.2.2.2 (l.getD y4.1 rz)).1)), .own 27⟩] : List (Option Blk)) = [some ⟨g0, 0, #[.int .i64 x'.2.1.2.2.2.a, .int .i64 x'.2.1.2.2.2.y, .slice x'.2.1.2.2.1.A1 x'.2.1.2.2.2.os.length x'.2.1.2.2.1.c1, .slice x'.2.1.2.2.1.A2 x'.2.1.2.2.2.cs.length x'.2.1.2.2.1.c2, .slice x'.2.1.2.2.1.A3 x'.2.1.2.2.2.ls.length x'.2.1.2.2.1.c3, .slice x'.2.1.2.2.1.A4 x'.2.1.2.2.2.ps.length x'.2.1.2.2.1.c4, .bool x'.2.1.2.2.2.k, .int .i64 x'.2.1.2.2.2.last, .int .i64 x'.2.1.2.2.2.seq, .int .i64 x'.2.1.2.2.2.lsn], .own 27⟩] ∧ Turns w [poolF x20.1.1 x20.1.2.1, poolF y4.2.1.1 y4.2.1.2.1] [poolF x'.2.1.1 x'.2.1.2.1]) ∧ true = true) ∧ ((decide ((l.getD y4.1 rz).k = 1)) = false → (.bool false : Value) = .bool true)) ∧ ((!decide ((do_ y4.2.1.2.2.2 (l.getD y4.1 rz)).1.last = y4.2.1.2.2.2.last)) = false → Yields0 Try.prog w [poolF x20.1.1 x20.1.2.1, poolF y4.2.1.1 y4.2.1.2.1] (Instr.indexAt 52 (.slice p1 l.length c1) (.int .i64 (y4.1 : Int))) (.pointer (some ⟨blkA p1, offA p1 + y4.1 * 13, none⟩)) ∧ Reads0 w [] (blkA p1) (offA p1 + y4.1 * 13) (rec.rc (l.getD y4.1 rz)) ∧ ((decide ((l.getD y4.1 rz).k = 1)) = true → (.bool false : Value) = .bool true) ∧ ((decide ((l.getD y4.1 rz).k = 1)) = false → (.int .i64 (IntKind.i64.wrap ((y4.1 : Int) + 1)) : Value) = .int .i64 ((y4.1 + 1 : Nat) : Int) ∧ ∃ x' : Nat × Dat (fun w S (b : Sv × St) => InS w S b.1 b.2) (Lt w.heap.size) w, (x'.1 ≤ l.length ∧ right x'.2.1.2.2.2 = true) ∧ (l.length - x'.1 < l.length - y4.1) ∧ (([.slice p1 l.length c1, .pointer (some ⟨g0, 0, none⟩), .int .i64 ((y4.1 + 1 : Nat) : Int)] : List Value) = [.slice p1 l.length c1, .pointer (some ⟨g0, 0, none⟩), .int .i64 (x'.1 : Int)] ∧ ([some ⟨g0, 0, (stc x20.1.2.2 ((do_ y4.2.1.2.2.2 (l.getD y4.1 rz)).1)), .own 27⟩] : List (Option Blk)) = [some ⟨g0, 0, #[.int .i64 x'.2.1.2.2.2.a, .int .i64 x'.2.1.2.2.2.y, .slice x'.2.1.2.2.1.A1 x'.2.1.2.2.2.os.length x'.2.1.2.2.1.c1, .slice x'.2.1.2.2.1.A2 x'.2.1.2.2.2.cs.length x'.2.1.2.2.1.c2, .slice x'.2.1.2.2.1.A3 x'.2.1.2.2.2.ls.length x'.2.1.2.2.1.c3, .slice x'.2.1.2.2.1.A4 x'.2.1.2.2.2.ps.length x'.2.1.2.2.1.c4, .bool x'.2.1.2.2.2.k, .int .i64 x'.2.1.2.2.2.last, .int .i64 x'.2.1.2.2.2.seq, .int .i64 x'.2.1.2.2.2.lsn], .own 27⟩] ∧ Turns w [poolF x20.1.1 x20.1.2.1, poolF y4.2.1.1 y4.2.1.2.1] [poolF x'.2.1.1 x'.2.1.2.1]) ∧ true = true))))))) ∧ ((right ((do_ y4.2.1.2.2.2 (l.getD y4.1 rz)).1)) = false → (.bool false : Value) = .bool true))) ∧ ((decide ((y4.1 : Int) < (l.length : Int))) = false → (.bool true : Value) = .bool true))) ∧ ((right s) = false → (.bool true : Value) = .bool true)) ∧ ((short s) = false → (.bool true : Value) = .bool true)) Try.func5 (by kernel_rfl)
  (fun g0 => ⟨gives awake_any, ⟨i_short, fun h1 => ⟨i_right (all_lt h), fun h2 => ⟨fun h3 => have h3 : 60 < (l.length : Int) := (by simpa using h3)
 rfl,
 fun h3 => have h3 : ¬ 60 < (l.length : Int) := (by simpa using h3)
⟨(fun _ _ _ => news_pool0), ⟨Nat.zero_le _, h2⟩, ⟨rfl, rfl, (turns_sub (.cons_cons _ (List.nil_sublist _)))⟩, rfl, fun y4 I5 τ6 => ⟨fun h7 => have h7 : (y4.1 : Int) < (l.length : Int) := (by simpa using h7)
⟨(low_index Try.underlying52 info_rec rec_cells (Nat.le_refl _) hx rfl (by omega)), (low_reads rec_cells (Nat.le_refl _) hx (at_getD (by omega))), ⟨i_may (datp_lt y4.2 (i := 0) rfl) (fine_rec hx _ (getD_mem (by omega))), ⟨(low_index Try.underlying52 info_rec rec_cells (Nat.le_refl _) hx rfl (by omega)), (low_reads rec_cells (Nat.le_refl _) hx (at_getD (by omega))), ⟨⟨i_do (fixed_both y4.2 (i := 0) rfl) (in_both y4.2 (i := 0) rfl) (fine_rec hx _ (getD_mem (by omega))), fun x8 => fun g3 => ⟨by first | (simp; done) | (simp only [decide_eq_true_eq, decide_eq_false_iff_not, Bool.not_eq_true', Bool.not_eq_false', Bool.not_eq_eq_eq_not, Bool.not_true, Bool.not_false]; omega), ⟨i_right (dat_lt x8 (fixed_both y4.2 (i := 1) rfl) (i := 0) rfl), fun h9 => ⟨fun h10 => have h10 : ¬ ((do_ y4.2.1.2.2.2 (l.getD y4.1 rz)).2) = 0 := (by simpa using h10)
⟨i_same (datp_lt y4.2 (i := 1) rfl) (dat_lt x8 (fixed_both y4.2 (i := 1) rfl) (i := 0) rfl), fun h11 => ⟨wrap_is (by omega) (by omega) (by omega), ⟨((y4.1 + 1, y4.2) : Nat × Dat (fun w S (b : Sv × St) => InS w S b.1 b.2) (Lt w.heap.size) w), ⟨by dsimp only; omega, I5.2⟩, (by dsimp only; omega), ⟨rfl, rfl, (turns_idx [1] (by decide) rfl)⟩, rfl⟩⟩,
 fun h11 => (by exact absurd (same_no h10) (of_decide_eq_false h11))⟩,
 fun h10 => have h10 : ((do_ y4.2.1.2.2.2 (l.getD y4.1 rz)).2) = 0 := (by simpa using h10)
⟨wrap_is rfl (by have := (right_iff.1 I5.2).2.2.1; omega) (by have := (right_iff.1 I5.2).2.2.1; omega), ⟨fun h12 => have h12 : ¬ (do_ y4.2.1.2.2.2 (l.getD y4.1 rz)).1.lsn = (y4.2.1.2.2.2.lsn + 1) := (by simpa using h12)
(by have h9 := stay_counts (s := y4.2.1.2.2.2) (r := l.getD y4.1 rz) I5.2 h10; exfalso; omega),
 fun h12 => have h12 : (do_ y4.2.1.2.2.2 (l.getD y4.1 rz)).1.lsn = (y4.2.1.2.2.2.lsn + 1) := (by simpa using h12)
⟨fun h13 => have h13 : ¬ (do_ y4.2.1.2.2.2 (l.getD y4.1 rz)).1.seq = y4.2.1.2.2.2.seq := (by simpa using h13)
⟨(low_index Try.underlying52 info_rec rec_cells (Nat.le_refl _) hx rfl (by omega)), (low_reads rec_cells (Nat.le_refl _) hx (at_getD (by omega))), ⟨fun h14 => have h14 : (l.getD y4.1 rz).k = 6 := (by simpa using h14)
⟨fun h15 => have h15 : ¬ (do_ y4.2.1.2.2.2 (l.getD y4.1 rz)).1.last = y4.2.1.2.2.2.last := (by simpa using h15)
⟨(low_index Try.underlying52 info_rec rec_cells (Nat.le_refl _) hx rfl (by omega)), (low_reads rec_cells (Nat.le_refl _) hx (at_getD (by omega))), ⟨by first | (simp; done) | (simp only [decide_eq_true_eq, decide_eq_false_iff_not, Bool.not_eq_true', Bool.not_eq_false', Bool.not_eq_eq_eq_not, Bool.not_true, Bool.not_false]; omega), (by have h9 := stay_counts (s := y4.2.1.2.2.2) (r := l.getD y4.1 rz) I5.2 h10; exfalso; omega)⟩⟩,
 fun h15 => have h15 : (do_ y4.2.1.2.2.2 (l.getD y4.1 rz)).1.last = y4.2.1.2.2.2.last := (by simpa using h15)
⟨(low_index Try.underlying52 info_rec rec_cells (Nat.le_refl _) hx rfl (by omega)), (low_reads rec_cells (Nat.le_refl _) hx (at_getD (by omega))), ⟨by first | (simp; done) | (simp only [decide_eq_true_eq, decide_eq_false_iff_not, Bool.not_eq_true', Bool.not_eq_false', Bool.not_eq_eq_eq_not, Bool.not_true, Bool.not_false]; omega), ⟨wrap_is (by omega) (by omega) (by omega), ⟨((y4.1 + 1, nextd y4.2 x8) : Nat × Dat (fun w S (b : Sv × St) => InS w S b.1 b.2) (Lt w.heap.size) w), ⟨by dsimp only; omega, h9⟩, (by dsimp only; omega), ⟨rfl, rfl, (turns_pool y4.2 x8)⟩, rfl⟩⟩⟩⟩⟩,
 fun h14 => have h14 : ¬ (l.getD y4.1 rz).k = 6 := (by simpa using h14)
(by have h9 := stay_counts (s := y4.2.1.2.2.2) (r := l.getD y4.1 rz) I5.2 h10; exfalso; omega)⟩⟩,
 fun h13 => have h13 : (do_ y4.2.1.2.2.2 (l.getD y4.1 rz)).1.seq = y4.2.1.2.2.2.seq := (by simpa using h13)
⟨(low_index Try.underlying52 info_rec rec_cells (Nat.le_refl _) hx rfl (by omega)), (low_reads rec_cells (Nat.le_refl _) hx (at_getD (by omega))), ⟨fun h16 => have h16 : (l.getD y4.1 rz).k = 6 := (by simpa using h16)
(by have h9 := stay_counts (s := y4.2.1.2.2.2) (r := l.getD y4.1 rz) I5.2 h10; exfalso; omega),
 fun h16 => have h16 : ¬ (l.getD y4.1 rz).k = 6 := (by simpa using h16)
⟨fun h17 => have h17 : ¬ (do_ y4.2.1.2.2.2 (l.getD y4.1 rz)).1.last = y4.2.1.2.2.2.last := (by simpa using h17)
⟨(low_index Try.underlying52 info_rec rec_cells (Nat.le_refl _) hx rfl (by omega)), (low_reads rec_cells (Nat.le_refl _) hx (at_getD (by omega))), ⟨fun h18 => have h18 : (l.getD y4.1 rz).k = 1 := (by simpa using h18)
⟨wrap_is (by omega) (by omega) (by omega), ⟨((y4.1 + 1, nextd y4.2 x8) : Nat × Dat (fun w S (b : Sv × St) => InS w S b.1 b.2) (Lt w.heap.size) w), ⟨by dsimp only; omega, h9⟩, (by dsimp only; omega), ⟨rfl, rfl, (turns_pool y4.2 x8)⟩, rfl⟩⟩,
 fun h18 => have h18 : ¬ (l.getD y4.1 rz).k = 1 := (by simpa using h18)
(by have h9 := stay_counts (s := y4.2.1.2.2.2) (r := l.getD y4.1 rz) I5.2 h10; exfalso; omega)⟩⟩,
 fun h17 => have h17 : (do_ y4.2.1.2.2.2 (l.getD y4.1 rz)).1.last = y4.2.1.2.2.2.last := (by simpa using h17)
⟨(low_index Try.underlying52 info_rec rec_cells (Nat.le_refl _) hx rfl (by omega)), (low_reads rec_cells (Nat.le_refl _) hx (at_getD (by omega))), ⟨fun h19 => have h19 : (l.getD y4.1 rz).k = 1 := (by simpa using h19)
(by have h9 := stay_counts (s := y4.2.1.2.2.2) (r := l.getD y4.1 rz) I5.2 h10; exfalso; omega),
 fun h19 => have h19 : ¬ (l.getD y4.1 rz).k = 1 := (by simpa using h19)
⟨wrap_is (by omega) (by omega) (by omega), ⟨((y4.1 + 1, nextd y4.2 x8) : Nat × Dat (fun w S (b : Sv × St) => InS w S b.1 b.2) (Lt w.heap.size) w), ⟨by dsimp only; omega, h9⟩, (by dsimp only; omega), ⟨rfl, rfl, (turns_pool y4.2 x8)⟩, rfl⟩⟩⟩⟩⟩⟩⟩⟩⟩⟩⟩,
 fun h9 => (by exact absurd (stay_right I5.2) (by rw [h9]; decide))⟩⟩⟩,
 fun g3 => ⟨i_do (fixed_both y4.2 (i := 0) rfl) (in_both y4.2 (i := 0) rfl) (fine_rec hx _ (getD_mem (by omega))), fun x20 => ⟨by first | (simp; done) | (simp only [decide_eq_true_eq, decide_eq_false_iff_not, Bool.not_eq_true', Bool.not_eq_false', Bool.not_eq_eq_eq_not, Bool.not_true, Bool.not_false]; omega), ⟨i_right (dat_lt x20 (fixed_both y4.2 (i := 1) rfl) (i := 0) rfl), fun h21 => ⟨fun h22 => have h22 : ¬ ((do_ y4.2.1.2.2.2 (l.getD y4.1 rz)).2) = 0 := (by simpa using h22)
⟨i_same (datp_lt y4.2 (i := 1) rfl) (dat_lt x20 (fixed_both y4.2 (i := 1) rfl) (i := 0) rfl), fun h23 => ⟨wrap_is (by omega) (by omega) (by omega), ⟨((y4.1 + 1, y4.2) : Nat × Dat (fun w S (b : Sv × St) => InS w S b.1 b.2) (Lt w.heap.size) w), ⟨by dsimp only; omega, I5.2⟩, (by dsimp only; omega), ⟨rfl, rfl, (turns_idx [1] (by decide) rfl)⟩, rfl⟩⟩,
 fun h23 => (by exact absurd (same_no h22) (of_decide_eq_false h23))⟩,
 fun h22 => have h22 : ((do_ y4.2.1.2.2.2 (l.getD y4.1 rz)).2) = 0 := (by simpa using h22)
⟨wrap_is rfl (by have := (right_iff.1 I5.2).2.2.1; omega) (by have := (right_iff.1 I5.2).2.2.1; omega), ⟨fun h24 => have h24 : ¬ (do_ y4.2.1.2.2.2 (l.getD y4.1 rz)).1.lsn = (y4.2.1.2.2.2.lsn + 1) := (by simpa using h24)
(by have h9 := stay_counts (s := y4.2.1.2.2.2) (r := l.getD y4.1 rz) I5.2 h22; exfalso; omega),
 fun h24 => have h24 : (do_ y4.2.1.2.2.2 (l.getD y4.1 rz)).1.lsn = (y4.2.1.2.2.2.lsn + 1) := (by simpa using h24)
⟨fun h25 => have h25 : ¬ (do_ y4.2.1.2.2.2 (l.getD y4.1 rz)).1.seq = y4.2.1.2.2.2.seq := (by simpa using h25)
⟨(low_index Try.underlying52 info_rec rec_cells (Nat.le_refl _) hx rfl (by omega)), (low_reads rec_cells (Nat.le_refl _) hx (at_getD (by omega))), ⟨fun h26 => have h26 : (l.getD y4.1 rz).k = 6 := (by simpa using h26)
⟨fun h27 => have h27 : ¬ (do_ y4.2.1.2.2.2 (l.getD y4.1 rz)).1.last = y4.2.1.2.2.2.last := (by simpa using h27)
⟨(low_index Try.underlying52 info_rec rec_cells (Nat.le_refl _) hx rfl (by omega)), (low_reads rec_cells (Nat.le_refl _) hx (at_getD (by omega))), ⟨by first | (simp; done) | (simp only [decide_eq_true_eq, decide_eq_false_iff_not, Bool.not_eq_true', Bool.not_eq_false', Bool.not_eq_eq_eq_not, Bool.not_true, Bool.not_false]; omega), (by have h9 := stay_counts (s := y4.2.1.2.2.2) (r := l.getD y4.1 rz) I5.2 h22; exfalso; omega)⟩⟩,
 fun h27 => have h27 : (do_ y4.2.1.2.2.2 (l.getD y4.1 rz)).1.last = y4.2.1.2.2.2.last := (by simpa using h27)
⟨(low_index Try.underlying52 info_rec rec_cells (Nat.le_refl _) hx rfl (by omega)), (low_reads rec_cells (Nat.le_refl _) hx (at_getD (by omega))), ⟨by first | (simp; done) | (simp only [decide_eq_true_eq, decide_eq_false_iff_not, Bool.not_eq_true', Bool.not_eq_false', Bool.not_eq_eq_eq_not, Bool.not_true, Bool.not_false]; omega), ⟨wrap_is (by omega) (by omega) (by omega), ⟨((y4.1 + 1, nextd y4.2 x20) : Nat × Dat (fun w S (b : Sv × St) => InS w S b.1 b.2) (Lt w.heap.size) w), ⟨by dsimp only; omega, h21⟩, (by dsimp only; omega), ⟨rfl, rfl, (turns_pool y4.2 x20)⟩, rfl⟩⟩⟩⟩⟩,
 fun h26 => have h26 : ¬ (l.getD y4.1 rz).k = 6 := (by simpa using h26)
(by have h9 := stay_counts (s := y4.2.1.2.2.2) (r := l.getD y4.1 rz) I5.2 h22; exfalso; omega)⟩⟩,
 fun h25 => have h25 : (do_ y4.2.1.2.2.2 (l.getD y4.1 rz)).1.seq = y4.2.1.2.2.2.seq := (by simpa using h25)
⟨(low_index Try.underlying52 info_rec rec_cells (Nat.le_refl _) hx rfl (by omega)), (low_reads rec_cells (Nat.le_refl _) hx (at_getD (by omega))), ⟨fun h28 => have h28 : (l.getD y4.1 rz).k = 6 := (by simpa using h28)
(by have h9 := stay_counts (s := y4.2.1.2.2.2) (r := l.getD y4.1 rz) I5.2 h22; exfalso; omega),
 fun h28 => have h28 : ¬ (l.getD y4.1 rz).k = 6 := (by simpa using h28)
⟨fun h29 => have h29 : ¬ (do_ y4.2.1.2.2.2 (l.getD y4.1 rz)).1.last = y4.2.1.2.2.2.last := (by simpa using h29)
⟨(low_index Try.underlying52 info_rec rec_cells (Nat.le_refl _) hx rfl (by omega)), (low_reads rec_cells (Nat.le_refl _) hx (at_getD (by omega))), ⟨fun h30 => have h30 : (l.getD y4.1 rz).k = 1 := (by simpa using h30)
⟨wrap_is (by omega) (by omega) (by omega), ⟨((y4.1 + 1, nextd y4.2 x20) : Nat × Dat (fun w S (b : Sv × St) => InS w S b.1 b.2) (Lt w.heap.size) w), ⟨by dsimp only; omega, h21⟩, (by dsimp only; omega), ⟨rfl, rfl, (turns_pool y4.2 x20)⟩, rfl⟩⟩,
 fun h30 => have h30 : ¬ (l.getD y4.1 rz).k = 1 := (by simpa using h30)
(by have h9 := stay_counts (s := y4.2.1.2.2.2) (r := l.getD y4.1 rz) I5.2 h22; exfalso; omega)⟩⟩,
 fun h29 => have h29 : (do_ y4.2.1.2.2.2 (l.getD y4.1 rz)).1.last = y4.2.1.2.2.2.last := (by simpa using h29)
⟨(low_index Try.underlying52 info_rec rec_cells (Nat.le_refl _) hx rfl (by omega)), (low_reads rec_cells (Nat.le_refl _) hx (at_getD (by omega))), ⟨fun h31 => have h31 : (l.getD y4.1 rz).k = 1 := (by simpa using h31)
(by have h9 := stay_counts (s := y4.2.1.2.2.2) (r := l.getD y4.1 rz) I5.2 h22; exfalso; omega),
 fun h31 => have h31 : ¬ (l.getD y4.1 rz).k = 1 := (by simpa using h31)
⟨wrap_is (by omega) (by omega) (by omega), ⟨((y4.1 + 1, nextd y4.2 x20) : Nat × Dat (fun w S (b : Sv × St) => InS w S b.1 b.2) (Lt w.heap.size) w), ⟨by dsimp only; omega, h21⟩, (by dsimp only; omega), ⟨rfl, rfl, (turns_pool y4.2 x20)⟩, rfl⟩⟩⟩⟩⟩⟩⟩⟩⟩⟩⟩,
 fun h21 => (by exact absurd (stay_right I5.2) (by rw [h21]; decide))⟩⟩⟩⟩⟩⟩⟩,
 fun h7 => have h7 : ¬ (y4.1 : Int) < (l.length : Int) := (by simpa using h7)
 rfl⟩⟩⟩,
 fun h2 => rfl⟩,
 fun h1 => rfl⟩⟩)
-- VX ENDS
theorem walk (cs0 : Array Value) (x0 : StateD) (p1 : Option Addr) (n1 c1 : Nat) (x1 : List (RecD)) (w : World) (w0 : rdState w (Lt w.heap.size) cs0.toList x0) (w1 : (rdSlice rdRec 13) w (Lt w.heap.size) [.slice p1 n1 c1] x1) :
    Calls Try.prog 5 #[.agg cs0, .slice p1 n1 c1] w fun e w' => e = .returned (.bool true) ∧ Below w.heap.size w w' := by
  obtain ⟨v0, e0, h0⟩ := w0
  obtain rfl : cs0 = stc v0 x0 := by apply Array.toList_inj.1; exact e0
  obtain ⟨A1, m1, q1, e1, hx1, hl1, hc1, hm1⟩ := w1
  obtain ⟨rfl, rfl, rfl⟩ : p1 = A1 ∧ n1 = m1 ∧ c1 = q1 := by simpa using e1
  subst hl1
  exact walk0 v0 x0 p1 c1 x1 w h0 hx1 (by unfold maxLen at hm1; omega)

set_option maxRecDepth 100000 in
theorem lifted (os : Os) (started : os.Started) (H : Type) (enc : TypeId × Value → H) :
    ReturnsInHanded {} Try.checked os 5 .any (Rows.bookStaysSpec.pre6 enc Try.prog Try.f5 Rows.bookStaysRow.domain false) (Rows.bookStaysSpec.post enc Try.prog Try.f5 false true false false) := by
  refine returnsInHanded_of_change (C := Try.checked) own started (by kernel_rfl) Try.func5
    (ChangeSpec.witness6 (enc := enc) (C := Try.checked) false ⟨#[], #[.agg #[.int .i64 0, .int .i64 0, .slice none 0 0, .slice none 0 0, .slice none 0 0, .slice none 0 0, .bool false, .int .i64 0, .int .i64 0, .int .i64 0], .slice none 0 0], []⟩ 8 (by kernel_rfl) (by kernel_rfl) (by kernel_rfl) (by kernel_rfl)) ?_
  intro W base args ds gs before hval0 hW hcnd _
  have hval : ∀ (j : Nat) t v, Try.f5.params[j]? = some t → args[j]? = some v → Value.okWide Try.prog W .any base t v := hval0
  have hW' := hW
  obtain ⟨p, q, hA0, hV, rfl, hfz, hnd⟩ := hW
  have hA : DataW.TrodAll enc Try.prog W 0 (fun _ => true) true Try.f5.params.toList args.toList ds p := hA0
  rw [Try.params5] at hA hval
  obtain ⟨v0, vs0, d0, ds0, p0_, q0, hargs, rfl, rfl, h0, r0⟩ := trodAll_cons hA
  obtain ⟨v1, vs1, d1, ds1, p1_, q1, rfl, rfl, rfl, h1, r1⟩ := trodAll_cons r0
  obtain ⟨rfl, rfl, rfl⟩ := trodAll_nil r1
  obtain rfl : args = #[v0, v1] := by cases args; simp_all
  obtain ⟨rfl, rfl⟩ := trodVars_none hV
  obtain ⟨cs0, rfl, hsz0⟩ := okWide_struct Try.underlying27 (hval 0 27 v0 rfl rfl)
  have k0 := h0
  have lt0 : ∀ x ∈ p0_, x.block < W.heap.size := by obtain ⟨m, hm⟩ := k0; exact DataW.trod_lt m _ _ _ hm
  obtain ⟨x0, w0⟩ := of_arg of_state k0
  obtain ⟨p1, n1, c1, rfl⟩ := okWide_slice Try.underlying52 (hval 1 52 v1 rfl rfl)
  have k1 := h1
  have lt1 : ∀ x ∈ p1_, x.block < W.heap.size := by obtain ⟨m, hm⟩ := k1; exact DataW.trod_lt m _ _ _ hm
  obtain ⟨x1, w1⟩ := of_arg (of_slice (size := 13) of_rec Try.underlying52 (by kernel_rfl) (by decide)) k1
  clear hA0 hval0
  refine (walk cs0 x0 p1 n1 c1 x1 W w0 w1).mono fun e W' ⟨he, bel⟩ => ?_
  subst he
  exact ⟨_, rfl, _, _, _, [], _, [], hW', trodAll_mk1 (shut_bool Try.underlying4 _), (trodAll_cons_mk (Below.trod laidOut (by kernel_rfl) (of_decide_eq_true (by kernel_rfl)) k0 bel lt0) (trodAll_cons_mk (Below.trod laidOut (by kernel_rfl) (of_decide_eq_true (by kernel_rfl)) k1 bel lt1) trodAll_mk0)), rfl, bel.frame _, fun h => by cases h⟩

theorem over : Rows.bookStaysRow.holds Try.pinned (OpenSpec.ofChange Rows.bookStaysSpec) :=
  OpenClaim.holds_of_wide 5 Try.f5 rfl rfl rfl rfl rfl rfl rfl ⟨rfl, rfl, rfl, rfl, rfl⟩ rfl rfl rfl rfl rfl (by kernel_rfl) Try.func5 (by kernel_rfl)
    (of_decide_eq_true (by kernel_rfl)) (by unfold Func.isWrapper; first | (rw [if_pos (by decide +kernel)]; kernel_rfl) | (rw [if_neg (by decide +kernel)]; exact ⟨rfl, rfl⟩))
    (fun os started H enc _ => lifted os started H enc)

theorem proved : Rows.BookStaysSaid := over
#print axioms proved
end Go.Proofs.Ytaagpldanbjacaa.bookStays
