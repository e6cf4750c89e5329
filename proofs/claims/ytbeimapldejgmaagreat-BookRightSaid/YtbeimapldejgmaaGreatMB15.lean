/-
  StV, Rw4, BookGm, BookCm
-/
import Derived.Test.YtbeimapldejgmaaGreatMB12
import Derived.Test.YtbeimapldejgmaaGreatMB14
import Derived.Test.YtbeimapldejgmaaGreatMB08
import Derived.Test.YtbeimapldejgmaaGreatMB16
import Derived.Test.YtbeimapldejgmaaGreatMB17
import Derived.Test.YtbeimapldejgmaaGreatMB04
set_option linter.unusedVariables false
set_option linter.unusedSimpArgs false
section
namespace Go.Proofs.YtbeimapldejgmaaGreat
open Go.RowKit
structure Sv where
 A1 : Option Addr
 c1 : Nat
 A2 : Option Addr
 c2 : Nat
 A3 : Option Addr
 c3 : Nat
 A4 : Option Addr
 c4 : Nat
def stc (v : Sv) (s : book.St) : Array Value := #[.int .i64 s.a, .int .i64 s.y, .slice v.A1 s.os.length v.c1, .slice v.A2 s.cs.length v.c2, .slice v.A3 s.ls.length v.c3, .slice v.A4 s.ps.length v.c4, .bool s.k, .int .i64 s.last, .int .i64 s.seq, .int .i64 s.lsn]
structure InS (w : World) (S : Nat → Prop) (v : Sv) (s : book.St) : Prop where
 o : Elems rdOrder 12 w S v.A1 s.os
 c : Elems rdCell 4 w S v.A2 s.cs
 l : Elems rdExpo 3 w S v.A3 s.ls
 k : Elems (rdInt .i64) 1 w S v.A4 s.ps
 no : s.os.length ≤ v.c1 ∧ v.c1 ≤ maxLen
 nc : s.cs.length ≤ v.c2 ∧ v.c2 ≤ maxLen
 nl : s.ls.length ≤ v.c3 ∧ v.c3 ≤ maxLen
 nk : s.ps.length ≤ v.c4 ∧ v.c4 ≤ maxLen
 fine : frame.inR s.a ∧ frame.inR s.y ∧ frame.inR s.last ∧ frame.inR s.seq ∧ frame.inR s.lsn
theorem InS.keep {w w' : World} {S S' : Nat → Prop} {v : Sv} {s : book.St} (h : InS w S v s) (hc : Alike S w w') (hS : ∀ b, S b → S' b) : InS w' S' v s :=
 ⟨h.o.keep keeps_order hc hS, h.c.keep keeps_cell hc hS, h.l.keep keeps_expo hc hS, h.k.keep (keeps_int _) hc hS, h.no, h.nc, h.nl, h.nk, h.fine⟩
theorem InS.below {w w' : World} {B : Nat} {v : Sv} {s : book.St} (h : InS w (Lt B) v s) (hb : Below B w w') : InS w' (Lt B) v s := h.keep (below_alike hb) (fun _ h => h)
theorem InS.all {w : World} {S : Nat → Prop} {v : Sv} {s : book.St} (h : InS w S v s) (hS : ∀ b, S b → b < w.heap.size) : InS w (Lt w.heap.size) v s := h.keep (alike_refl _ _) hS
theorem InS.lt {w : World} {S : Nat → Prop} {v : Sv} {s : book.St} (h : InS w S v s) : InS w (Lt w.heap.size) v s :=
 ⟨elems_lt order_cells (fun _ => Nat.succ_pos _) (fun h => h) h.o, elems_lt cell_cells (fun _ => Nat.succ_pos _) (fun h => h) h.c, elems_lt expo_cells (fun _ => Nat.succ_pos _) (fun h => h) h.l, elems_lt (tc := fun x => #[Value.int .i64 x]) (fun _ _ _ _ h => h.1) (fun _ => Nat.succ_pos _) (fun h => h) h.k, h.no, h.nc, h.nl, h.nk, h.fine⟩
theorem InS.len {w : World} {S : Nat → Prop} {v : Sv} {s : book.St} (h : InS w S v s) : s.os.length ≤ 9223372036854775807 ∧ s.cs.length ≤ 9223372036854775807 ∧ s.ls.length ≤ 9223372036854775807 ∧ s.ps.length ≤ 9223372036854775807 := by
 have h1 := h.no; have h2 := h.nc; have h3 := h.nl; have h4 := h.nk; unfold maxLen at *; omega
theorem fine_or {w : World} {S : Nat → Prop} {A : Option Addr} {xs : List order.Or} (h : Elems rdOrder 12 w S A xs) : ∀ o ∈ xs, o.fine := fun o ho => by
 obtain ⟨j, hj, rfl⟩ := List.getElem_of_mem ho
 obtain ⟨b, off, e, hb, hc⟩ := h (by omega)
 obtain ⟨cs, hl, hcs, _, hf⟩ := hc j xs[j] (List.getElem?_eq_getElem hj)
 exact hf
theorem fine_ce {w : World} {S : Nat → Prop} {A : Option Addr} {xs : List cell.Ce} (h : Elems rdCell 4 w S A xs) : ∀ o ∈ xs, o.fine := fun o ho => by
 obtain ⟨j, hj, rfl⟩ := List.getElem_of_mem ho
 obtain ⟨b, off, e, hb, hc⟩ := h (by omega)
 obtain ⟨cs, hl, hcs, _, hf⟩ := hc j xs[j] (List.getElem?_eq_getElem hj)
 exact hf
theorem fine_ex {w : World} {S : Nat → Prop} {A : Option Addr} {xs : List cell.Ex} (h : Elems rdExpo 3 w S A xs) : ∀ o ∈ xs, o.fine := fun o ho => by
 obtain ⟨j, hj, rfl⟩ := List.getElem_of_mem ho
 obtain ⟨b, off, e, hb, hc⟩ := h (by omega)
 obtain ⟨cs, hl, hcs, _, hf⟩ := hc j xs[j] (List.getElem?_eq_getElem hj)
 exact hf
theorem getD_mem {α : Type} {xs : List α} {j : Nat} {z : α} (h : j < xs.length) : xs.getD j z ∈ xs := List.mem_of_getElem? (at_getD h)
end Go.Proofs.YtbeimapldejgmaaGreat
end
section
namespace Go.Proofs.YtbeimapldejgmaaGreat
abbrev oO (A : Option Addr) (n c : Nat) (xs : List order.Or) : Fact := ownF rdOrder 12 56 A n c xs
abbrev oC (A : Option Addr) (n c : Nat) (xs : List cell.Ce) : Fact := ownF rdCell 4 51 A n c xs
abbrev oX (A : Option Addr) (n c : Nat) (xs : List cell.Ex) : Fact := ownF rdExpo 3 31 A n c xs
abbrev oI (A : Option Addr) (n c : Nat) (xs : List Int) : Fact := ownF (rdInt .i64) 1 2 A n c xs
abbrev rw4 (v : Sv) (s : book.St) : List Fact := [oO v.A1 s.os.length v.c1 s.os, oC v.A2 s.cs.length v.c2 s.cs, oX v.A3 s.ls.length v.c3 s.ls, oI v.A4 s.ps.length v.c4 s.ps]
end Go.Proofs.YtbeimapldejgmaaGreat
end
section
namespace Go.Proofs.YtbeimapldejgmaaGreat.book
open Go.RowKit Go.Proofs.YtbeimapldejgmaaGreat
open Go.Proofs.YtbeimapldejgmaaGreat.order (Or open_ worth)
open Go.Proofs.YtbeimapldejgmaaGreat.cell (Ce Ex)
def addV (a b : Int) : Int := if inI (a + b) then a + b else 0
def addB (a b : Int) : Bool := decide (inI (a + b))
def findI (os : List Or) (id : Int) : Int := match find os id with
 | some k => (k : Int)
 | none => -1
theorem findI_yes {os : List Or} {id : Int} {k : Nat} (hk : k < os.length) (h : (os.getD k order.oz).i = id) (hn : ∀ j, j < k → (os.getD j order.oz).i ≠ id) : findI os id = (k : Int) := by
 have : find os id = some k := by
  unfold find
  rw [List.findIdx?_eq_some_iff_getElem]
  refine ⟨hk, ?_, fun j hj => ?_⟩
  ·simpa [List.getD, List.getElem?_eq_getElem hk] using h
  ·have := hn j hj
   simpa [List.getD, List.getElem?_eq_getElem (show j < os.length by omega)] using this
 unfold findI
 rw [this]
theorem findI_no {os : List Or} {id : Int} (hn : ∀ j, j < os.length → (os.getD j order.oz).i ≠ id) : findI os id = -1 := by
 have : find os id = none := by
  unfold find
  rw [List.findIdx?_eq_none_iff]
  intro o ho
  obtain ⟨j, hj, rfl⟩ := List.getElem_of_mem ho
  have := hn j hj
  simpa [List.getD, List.getElem?_eq_getElem hj] using this
 unfold findI
 rw [this]
theorem lt_step {p : Nat → Prop} {k : Nat} (h : ∀ j, j < k → p j) (hk : p k) : ∀ j, j < k + 1 → p j := fun j hj => by
 rcases Nat.lt_or_ge j k with h1 | h1
 ·exact h j h1
 ·rw [show j = k by omega]; exact hk
def short (s : St) : Bool := decide (s.os.length ≤ 70 ∧ s.cs.length ≤ 70 ∧ s.ls.length ≤ 70 ∧ s.ps.length ≤ 70)
theorem list_eq {α : Type} {xs ys : List α} {z : α} (hl : xs.length = ys.length) (h : ∀ j, j < xs.length → xs.getD j z = ys.getD j z) : xs = ys := by
 apply List.ext_getElem hl
 intro j h1 h2
 have := h j h1
 simpa [List.getD, List.getElem?_eq_getElem h1, List.getElem?_eq_getElem h2] using this
theorem list_ne {α : Type} {xs ys : List α} {z : α} {j : Nat} (h : ¬ xs.getD j z = ys.getD j z) : xs ≠ ys := fun e => h (by rw [e])
def newS (a y : Int) (l : Ex) (c : Int) : St := ⟨a, y, [], List.replicate (a.toNat * y.toNat) cz, List.replicate (a.toNat * y.toNat) l, List.replicate a.toNat c, false, 0, 0, 0⟩
end Go.Proofs.YtbeimapldejgmaaGreat.book
end
section
namespace Go.Proofs.YtbeimapldejgmaaGreat.book
open Go.RowKit Go.Proofs.YtbeimapldejgmaaGreat
open Go.Proofs.YtbeimapldejgmaaGreat.order (Or open_ worth oz)
open Go.Proofs.YtbeimapldejgmaaGreat.cell (Ce Ex)
def cellsOk (s : St) : Bool := decide (Fits s.a s.y s.os (cellsOf s.y s.os (s.cs.map Ce.p)))
def CL (s : St) : List Ce := cellsOf s.y s.os (s.cs.map Ce.p)
def part (s : St) (i k : Nat) : Ce := cellAt s.y i (s.cs.getD i cz).p (s.os.take k)
def InRange (s : St) : Prop := (1 ≤ s.a ∧ s.a ≤ 8 ∧ 1 ≤ s.y ∧ s.y ≤ 8) ∧ (s.cs.length : Int) = s.a * s.y ∧ ∀ o ∈ s.os, order.Rightly o ∧ o.a < s.a ∧ o.y < s.y
theorem addV_in (a b : Int) : inI (addV a b) := by
 unfold addV; split
 ·assumption
 ·unfold inI; omega
theorem addV_is {a b : Int} (h : addB a b = true) : addV a b = a + b := by
 unfold addB at h; unfold addV; rw [if_pos (by simpa using h)]
theorem mul_le {a y A Y : Int} (h0 : 0 ≤ a) (h1 : a ≤ A) (h2 : 0 ≤ y) (h3 : y ≤ Y) : 0 ≤ a * y ∧ a * y ≤ A * Y :=
 ⟨Int.mul_nonneg h0 h2, Int.le_trans (Int.mul_le_mul_of_nonneg_right h1 h2) (Int.mul_le_mul_of_nonneg_left h3 (by omega))⟩
theorem cs_len {s : St} (hI : InRange s) : s.cs.length ≤ 64 := by
 obtain ⟨⟨h1, h2, h3, h4⟩, h5, _⟩ := hI
 have := mul_le (a := s.a) (y := s.y) (A := 8) (Y := 8) (by omega) (by omega) (by omega) (by omega)
 omega
theorem or_in {s : St} (hI : InRange s) {k : Nat} (hk : k < s.os.length) : order.Rightly (s.os.getD k oz) ∧ (s.os.getD k oz).a < s.a ∧ (s.os.getD k oz).y < s.y := hI.2.2 _ (getD_mem hk)
theorem pl_rng {s : St} (hI : InRange s) {k : Nat} (hk : k < s.os.length) : 0 ≤ (s.os.getD k oz).a * s.y ∧ (s.os.getD k oz).a * s.y ≤ 64 ∧ 0 ≤ (s.os.getD k oz).a * s.y + (s.os.getD k oz).y ∧ (s.os.getD k oz).a * s.y + (s.os.getD k oz).y ≤ 72 := by
 obtain ⟨hr, ha, hy⟩ := or_in hI hk
 have h1 := hr.1
 have h2 := hI.1
 have := mul_le (a := (s.os.getD k oz).a) (y := s.y) (A := 8) (Y := 8) (by omega) (by omega) (by omega) (by omega)
 omega
theorem pl_low {s : St} (hI : InRange s) {o : Or} (ho : o ∈ s.os) : 0 ≤ pl s.y o ∧ pl s.y o < s.cs.length := by
 obtain ⟨hr, ha, hy⟩ := hI.2.2 o ho
 have h1 := hr.1
 have h4 := hI.1
 have h2 := mul_le (a := o.a) (y := s.y) (A := s.a - 1) (Y := s.y) (by omega) (by omega) (by omega) (by omega)
 have h3 : (s.a - 1) * s.y = s.a * s.y - s.y := by rw [Int.sub_mul, Int.one_mul]
 have := hI.2.1
 unfold pl
 omega
theorem sum_next (w : Or → Int) {os : List Or} {k : Nat} (hk : k < os.length) : sum w (os.take (k + 1)) = sum w (os.take k) + w (os.getD k oz) := by
 unfold sum
 rw [List.take_add_one, at_getD (z := oz) hk]
 simp
theorem part_zero (s : St) (i : Nat) : part s i 0 = ⟨(s.cs.getD i cz).p, 0, 0, 0⟩ := rfl
theorem part_end (s : St) {i k : Nat} (hk : s.os.length ≤ k) : part s i k = cellAt s.y i (s.cs.getD i cz).p s.os := by
 unfold part; rw [List.take_of_length_le hk]
theorem part_skip {s : St} {i k : Nat} (hk : k < s.os.length) (h : ¬ (s.os.getD k oz).a * s.y + (s.os.getD k oz).y = (i : Int)) : part s i (k + 1) = part s i k := by
 have h' : ¬ pl s.y (s.os.getD k oz) = (i : Int) := h
 unfold part cellAt
 rw [sum_next _ hk, sum_next _ hk, sum_next _ hk]
 simp only [wB, wS, wN, h', false_and, if_false, Int.add_zero]
theorem part_buy {s : St} {i k : Nat} (hk : k < s.os.length) (h : (s.os.getD k oz).a * s.y + (s.os.getD k oz).y = (i : Int)) (hd : (s.os.getD k oz).d = 1)
  (h1 : addB (part s i k).n (worth (s.os.getD k oz)).1 = true) (h2 : addB (part s i k).b (open_ (s.os.getD k oz)) = true) :
  part s i (k + 1) = ⟨(part s i k).p, addV (part s i k).b (open_ (s.os.getD k oz)), (part s i k).s, addV (part s i k).n (worth (s.os.getD k oz)).1⟩ := by
 have h' : pl s.y (s.os.getD k oz) = (i : Int) := h
 rw [addV_is h1, addV_is h2]
 unfold part cellAt
 rw [sum_next _ hk, sum_next _ hk, sum_next _ hk]
 simp only [wB, wS, wN, h', hd, true_and, and_true, ne_eq, not_true_eq_false, not_false_eq_true, and_false, if_true, if_false, Int.add_zero]
theorem part_sell {s : St} {i k : Nat} (hk : k < s.os.length) (h : (s.os.getD k oz).a * s.y + (s.os.getD k oz).y = (i : Int)) (hd : ¬ (s.os.getD k oz).d = 1)
  (h1 : addB (part s i k).n (worth (s.os.getD k oz)).1 = true) (h2 : addB (part s i k).s (open_ (s.os.getD k oz)) = true) :
  part s i (k + 1) = ⟨(part s i k).p, (part s i k).b, addV (part s i k).s (open_ (s.os.getD k oz)), addV (part s i k).n (worth (s.os.getD k oz)).1⟩ := by
 have h' : pl s.y (s.os.getD k oz) = (i : Int) := h
 rw [addV_is h1, addV_is h2]
 unfold part cellAt
 rw [sum_next _ hk, sum_next _ hk, sum_next _ hk]
 simp only [wB, wS, wN, h', hd, true_and, and_true, ne_eq, not_true_eq_false, not_false_eq_true, and_false, if_true, if_false, Int.add_zero]
theorem CL_len (s : St) : (CL s).length = s.cs.length := by unfold CL; rw [cells_len, List.length_map]
theorem CL_at {s : St} {i : Nat} (hi : i < s.cs.length) : (CL s)[i]? = some (cellAt s.y i (s.cs.getD i cz).p s.os) := by
 refine cells_at ?_
 rw [List.getElem?_map, at_getD (z := cz) hi]; rfl
theorem CL_next {s : St} {i k : Nat} (hi : i < s.cs.length) (hk : s.os.length ≤ k) : (CL s).take i ++ [part s i k] = (CL s).take (i + 1) := by
 rw [part_end s hk, List.take_add_one, CL_at hi]; rfl
theorem part_nn {s : St} (hI : InRange s) (i k : Nat) : 0 ≤ (part s i k).b ∧ 0 ≤ (part s i k).s ∧ 0 ≤ (part s i k).n := by
 refine ⟨?_, ?_, ?_⟩
 ·exact sum_nn (fun o ho => wB_nn (hI.2.2 o (List.mem_of_mem_take ho)).1)
 ·exact sum_nn (fun o ho => wS_nn (hI.2.2 o (List.mem_of_mem_take ho)).1)
 ·exact sum_nn (fun o ho => wN_nn (hI.2.2 o (List.mem_of_mem_take ho)).1)
theorem part_le {s : St} (hI : InRange s) (i k : Nat) : (part s i k).b ≤ (cellAt s.y i (s.cs.getD i cz).p s.os).b ∧ (part s i k).s ≤ (cellAt s.y i (s.cs.getD i cz).p s.os).s ∧ (part s i k).n ≤ (cellAt s.y i (s.cs.getD i cz).p s.os).n := by
 refine ⟨?_, ?_, ?_⟩
 ·exact sum_take (fun o ho => wB_nn (hI.2.2 o ho).1) k
 ·exact sum_take (fun o ho => wS_nn (hI.2.2 o ho).1) k
 ·exact sum_take (fun o ho => wN_nn (hI.2.2 o ho).1) k
theorem ok_iff {s : St} : cellsOk s = true ↔ Fits s.a s.y s.os (CL s) := by unfold cellsOk CL; rw [decide_eq_true_eq]
theorem ok_no {s : St} (h : ¬ Fits s.a s.y s.os (CL s)) : cellsOk s = false := by
 cases hc : cellsOk s with
 | false => rfl
 | true => exact absurd (ok_iff.1 hc) h
theorem bad_worth {s : St} {k : Nat} (hk : k < s.os.length) (h : ¬ (worth (s.os.getD k oz)).2 = 0) : cellsOk s = false := ok_no (fun hf => h (hf.1 _ (getD_mem hk)))
theorem bad_cell {s : St} {i : Nat} (hi : i < s.cs.length) (h : ¬ ((cellAt s.y i (s.cs.getD i cz).p s.os).fine ∧ cell.Rightly (cellAt s.y i (s.cs.getD i cz).p s.os))) : cellsOk s = false :=
 ok_no (fun hf => h (hf.2.1 _ (List.mem_of_getElem? (CL_at hi))))
theorem bad_n {s : St} (hI : InRange s) {i k : Nat} (hi : i < s.cs.length) (hk : k < s.os.length) (h : (s.os.getD k oz).a * s.y + (s.os.getD k oz).y = (i : Int)) (h1 : addB (part s i k).n (worth (s.os.getD k oz)).1 = false) : cellsOk s = false := by
 have h' : pl s.y (s.os.getD k oz) = (i : Int) := h
 refine bad_cell hi (fun hc => ?_)
 have h2 := (part_le hI i (k + 1)).2.2
 have h3 := (part_nn hI i k).2.2
 have h4 := cell.worth_nn (or_in hI hk).1
 have h5 : (part s i (k + 1)).n = (part s i k).n + (worth (s.os.getD k oz)).1 := by
  unfold part cellAt; simp only; rw [sum_next _ hk]; simp only [wN, h', if_true]
 have h6 := hc.1.2.2.2
 unfold addB at h1
 unfold frame.inR at h6
 exact (of_decide_eq_false h1) ⟨by omega, by omega⟩
theorem bad_b {s : St} (hI : InRange s) {i k : Nat} (hi : i < s.cs.length) (hk : k < s.os.length) (h : (s.os.getD k oz).a * s.y + (s.os.getD k oz).y = (i : Int)) (hd : (s.os.getD k oz).d = 1) (h1 : addB (part s i k).b (open_ (s.os.getD k oz)) = false) : cellsOk s = false := by
 have h' : pl s.y (s.os.getD k oz) = (i : Int) := h
 refine bad_cell hi (fun hc => ?_)
 have h2 := (part_le hI i (k + 1)).1
 have h3 := (part_nn hI i k).1
 have h4 := cell.open_nn (or_in hI hk).1
 have h5 : (part s i (k + 1)).b = (part s i k).b + (open_ (s.os.getD k oz)) := by
  unfold part cellAt; simp only; rw [sum_next _ hk]; simp only [wB, h', hd, and_true, true_and, if_true]
 have h6 := hc.1.2.1
 unfold addB at h1
 unfold frame.inR at h6
 exact (of_decide_eq_false h1) ⟨by omega, by omega⟩
theorem bad_s {s : St} (hI : InRange s) {i k : Nat} (hi : i < s.cs.length) (hk : k < s.os.length) (h : (s.os.getD k oz).a * s.y + (s.os.getD k oz).y = (i : Int)) (hd : ¬ (s.os.getD k oz).d = 1) (h1 : addB (part s i k).s (open_ (s.os.getD k oz)) = false) : cellsOk s = false := by
 have h' : pl s.y (s.os.getD k oz) = (i : Int) := h
 refine bad_cell hi (fun hc => ?_)
 have h2 := (part_le hI i (k + 1)).2.1
 have h3 := (part_nn hI i k).2.1
 have h4 := cell.open_nn (or_in hI hk).1
 have h5 : (part s i (k + 1)).s = (part s i k).s + (open_ (s.os.getD k oz)) := by
  unfold part cellAt; simp only; rw [sum_next _ hk]; simp only [wS, h', hd, ne_eq, not_false_eq_true, and_true, true_and, if_true]
 have h6 := hc.1.2.2.1
 unfold addB at h1
 unfold frame.inR at h6
 exact (of_decide_eq_false h1) ⟨by omega, by omega⟩
theorem bad_right {s : St} {i k : Nat} (hi : i < s.cs.length) (hk : s.os.length ≤ k) (h : cell.right (part s i k) = false) : cellsOk s = false := by
 rw [part_end s hk] at h
 exact bad_cell hi (fun hc => cell.right_no.1 h hc.2)
theorem bad_whole {s : St} {j : Nat} (hj : (j : Int) < s.a) (h : decide ((limit.whole (acc s.y j (CL s))).2 = 0) = false) : cellsOk s = false :=
 ok_no (fun hf => by
  have := hf.2.2 j (by simp; omega)
  simp [this] at h)
theorem good_cells {s : St} (hI : InRange s) (h1 : ∀ o ∈ s.os, pl s.y o < (s.cs.length : Int) → (worth o).2 = 0) (h2 : ∀ c ∈ CL s, c.fine ∧ cell.Rightly c) (h3 : ∀ j : Nat, (j : Int) < s.a → (limit.whole (acc s.y j (CL s))).2 = 0) : cellsOk s = true :=
 ok_iff.2 ⟨fun o ho => h1 o ho (pl_low hI ho).2, h2, fun j hj => h3 j (by simp at hj; omega)⟩
theorem part_fine0 {s : St} {i : Nat} (h : (s.cs.getD i cz).fine) : (part s i 0).fine := by
 rw [part_zero]
 refine ⟨h.1, ?_, ?_, ?_⟩ <;> (unfold frame.inR; simp)
theorem take_next {s : St} {i k : Nat} (hi : i < s.cs.length) (hk : s.os.length ≤ k) (h : ∀ c ∈ (CL s).take i, c.fine ∧ cell.Rightly c) (hf : (part s i k).fine) (hr : cell.right (part s i k) = true) : ∀ c ∈ (CL s).take (i + 1), c.fine ∧ cell.Rightly c := by
 rw [← CL_next hi hk]
 intro c hc
 rcases List.mem_append.1 hc with h1 | h1
 ·exact h c h1
 ·rw [List.mem_singleton.1 h1]; exact ⟨hf, cell.right_iff.1 hr⟩
theorem acc_reads {w : World} {S : Nat → Prop} {A : Option Addr} {c : Nat} {cs : List Ce} {y : Int} {j : Nat} (h : Elems rdCell 4 w S A cs) (hc : cs.length ≤ c) : Elems rdCell 4 w S (cutAt A c (j * y.toNat) 4) (acc y j cs) := by
 unfold acc
 have h1 := h.cut (j * y.toNat) c hc
 intro h0
 rw [List.length_take] at h0
 obtain ⟨b, off, e, hb, hh⟩ := h1 (by omega)
 refine ⟨b, off, e, hb, fun i x hx => hh i x ?_⟩
 rw [List.getElem?_take] at hx
 split at hx
 ·exact hx
 ·cases hx
theorem acc_length {cs : List Ce} {y : Int} {j : Nat} (h : (j + 1) * y.toNat ≤ cs.length) : (acc y j cs).length = y.toNat := by
 unfold acc
 rw [List.length_take, List.length_drop, Nat.succ_mul] at *
 omega
theorem acc_rng {s : St} (hI : InRange s) {j : Nat} (hj : (j : Int) < s.a) : (j + 1) * s.y.toNat ≤ s.cs.length ∧ (j : Int) * s.y = ((j * s.y.toNat : Nat) : Int) ∧ ((j + 1 : Nat) : Int) * s.y = (((j + 1) * s.y.toNat : Nat) : Int) ∧ (j + 1) * s.y.toNat ≤ 64 ∧ j * s.y.toNat ≤ (j + 1) * s.y.toNat ∧ (j + 1) * s.y.toNat - j * s.y.toNat = s.y.toNat := by
 obtain ⟨⟨h1, h2, h3, h4⟩, h5, _⟩ := hI
 have hy : ((s.y.toNat : Nat) : Int) = s.y := Int.toNat_of_nonneg (by omega)
 have e1 : (j : Int) * s.y = ((j * s.y.toNat : Nat) : Int) := by rw [Int.natCast_mul, hy]
 have e2 : ((j + 1 : Nat) : Int) * s.y = (((j + 1) * s.y.toNat : Nat) : Int) := by rw [Int.natCast_mul, hy]
 have h6 := mul_le (a := ((j + 1 : Nat) : Int)) (y := s.y) (A := s.a) (Y := s.y) (by omega) (by omega) (by omega) (by omega)
 have h7 := mul_le (a := s.a) (y := s.y) (A := 8) (Y := 8) (by omega) (by omega) (by omega) (by omega)
 have h8 : (j + 1) * s.y.toNat = j * s.y.toNat + s.y.toNat := Nat.succ_mul _ _
 refine ⟨by omega, e1, e2, by omega, by omega, by omega⟩
end Go.Proofs.YtbeimapldejgmaaGreat.book
end
