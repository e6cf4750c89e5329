/-
  BookMath2, BookMath3, BookMath4, BookMath5
-/
import Derived.Test.YtaagpldanbjacaaMa16
section
namespace Go.Proofs.Ytaagpldanbjacaa.book
open Go.Proofs.Ytaagpldanbjacaa.cell (Ce Ex)
open Go.Proofs.Ytaagpldanbjacaa.order (Or Nt open_ worth Took)
open Go.Proofs.Ytaagpldanbjacaa.rec (Rc)
open Go.Proofs.Ytaagpldanbjacaa.frame (inR)
set_option linter.unusedVariables false
set_option linter.unusedSimpArgs false

def find (os : List Or) (id : Int) : Option Nat := os.findIdx? (fun o => decide (o.i = id))
def cz : Ce := ⟨0, 0, 0, 0⟩
def xz : Ex := ⟨0, 0, 0⟩
def place (y a b : Int) : Nat := (a * y + b).toNat
/-- a state with other orders, and its cells anew. -/
def put (s : St) (os : List Or) : St := { s with os := os, cs := cellsOf s.y os (s.cs.map Ce.p) }
/-- does a limit stand against it, or a cap? -/
def stands (s t : St) (a y : Int) : Bool :=
  limit.against (cell.of_ (s.cs.getD (place s.y a y) cz)).1 (cell.of_ (t.cs.getD (place s.y a y) cz)).1 (s.ls.getD (place s.y a y) xz) ||
  limit.cap (limit.whole (acc s.y a.toNat s.cs)).1 (limit.whole (acc s.y a.toNat t.cs)).1 (s.ps.getD a.toNat 0)
def ask (s : St) (os : List Or) (a y last : Int) : St × Int :=
  if Fits s.a s.y os (put s os).cs then (if stands s (put s os) a y = true then (s, 4) else ({ put s os with last := last }, 0)) else (s, 3)
/-- by how much a note moves the position. -/
def shift (o : Or) (n : Nt) : Int := if n.t = 3 then (if o.d = 1 then n.q else -n.q) else 0
def left_ (os : List Or) (k : Nat) (p : Or) : List Or := if p.h = 3 then os.eraseIdx k else os.set k p
def moved (y : Int) (ps : List Int) (o : Or) (n : Nt) : List Int := ps.mapIdx fun i p => if pl y o = i then p + shift o n else p
def nt (r : Rc) : Nt := ⟨r.z, r.t, r.o, r.q, r.p⟩
def event (s : St) (r : Rc) : St × Int :=
  if r.z - 1 ≠ s.seq then (s, 11) else
  match find s.os r.o with
  | none => ({ s with seq := r.z }, 0)
  | some k =>
    if (order.take (s.os.getD k order.oz) (nt r)).2 ≠ 0 then ({ s with seq := r.z }, 0)
    else ({ s with seq := r.z, os := left_ s.os k (order.take (s.os.getD k order.oz) (nt r)).1, cs := cellsOf s.y (left_ s.os k (order.take (s.os.getD k order.oz) (nt r)).1) (moved s.y (s.cs.map Ce.p) (s.os.getD k order.oz) (nt r)) }, 0)
def doing (s : St) (r : Rc) : St × Int :=
  if r.k = 1 then (if s.k = true then (s, 5) else if 64 ≤ s.os.length then (s, 6) else ask s (s.os ++ [(order.begin_ r).1]) r.a r.y r.o)
  else if r.k = 2 then
    match find s.os r.o with
    | none => (s, 7)
    | some k =>
      if (order.change (s.os.getD k order.oz) r.q r.p).2 ≠ 0 then (s, 8) else if s.k = true then (s, 5)
      else ask s (s.os.set k (order.change (s.os.getD k order.oz) r.q r.p).1) (s.os.getD k order.oz).a (s.os.getD k order.oz).y s.last
  else if r.k = 3 then
    match find s.os r.o with
    | none => (s, 7)
    | some k => if (order.stop (s.os.getD k order.oz)).2 ≠ 0 then (s, 8) else ({ s with os := s.os.set k (order.stop (s.os.getD k order.oz)).1 }, 0)
  else if r.k = 4 then (if r.y = -1 then ({ s with ps := s.ps.set r.a.toNat r.n }, 0) else ({ s with ls := s.ls.set (place s.y r.a r.y) ⟨r.l, r.s, r.n⟩ }, 0))
  else if r.k = 5 then ({ s with k := r.on }, 0)
  else event s r
def Wrong (s : St) (r : Rc) : Prop := right s = false ∨ rec.right r = false ∨ 1000000000 ≤ s.lsn ∨ s.a ≤ r.a ∨ s.y ≤ r.y ∨ (r.k = 1 ∧ r.o ≤ s.last)
instance (s : St) (r : Rc) : Decidable (Wrong s r) := by unfold Wrong; infer_instance
def do_ (s : St) (r : Rc) : St × Int :=
  if Wrong s r then (s, 1) else if (doing s r).2 ≠ 0 then (s, (doing s r).2) else ({ (doing s r).1 with lsn := s.lsn + 1 }, 0)

/-- what a fill takes from what is open is at least what it moves. -/
theorem took_fill {o : Or} {n : Nt} {p : Or} (hr : order.Rightly o) (h : Took o n p) (ht : n.t = 3) (hq : 1 ≤ n.q) : open_ p + n.q ≤ open_ o := by
  have hp := order.took_right hr h
  have h2 := order.right_iff.2 hr
  have h3 := order.right_iff.2 hp
  unfold open_
  rw [h2, h3]
  unfold order.Rightly at hr hp
  cases h <;> simp only [order.done] at * <;> (try omega) <;> simp <;> (repeat' split) <;> omega
theorem pl_same {y : Int} {o : Or} {n : Nt} {p : Or} (hr : order.Rightly o) (h : Took o n p) : pl y p = pl y o ∧ p.d = o.d := by
  have := order.took_same hr h
  unfold pl
  rw [this.2.2.2.1, this.2.2.2.2.1]
  exact ⟨rfl, this.2.2.2.2.2.1⟩
theorem left_sum {w : Or → Int} {os : List Or} {k : Nat} {o p : Or} (h : os[k]? = some o) (hw : p.h = 3 → w p = 0) : sum w (left_ os k p) = sum w os - w o + w p := by
  unfold left_
  split
  · rename_i h3; rw [sum_erase w os k o h, hw h3]; omega
  · exact sum_set w os k o p h
theorem open_done {p : Or} (h : p.h = 3) : open_ p = 0 := by unfold open_; simp [h]
theorem w_done {y i : Int} {p : Or} (hr : order.Rightly p) (h : p.h = 3) : wB y i p = 0 ∧ wS y i p = 0 ∧ wN y i p = 0 := by
  unfold wB wS wN
  rw [open_done h, order.worth_done hr h]
  simp
/-- a cell behind an event: what it is, beside what it was. -/
theorem event_cell {s : St} (hs : Rightly s) {k : Nat} {o : Or} {n : Nt} {p : Or} (hk : s.os[k]? = some o) (ht : Took o n p) (hn : order.noteOk n = true) {i : Nat} {c : Ce} (hc : s.cs[i]? = some c) :
    ∃ d, (cellsOf s.y (left_ s.os k p) (moved s.y (s.cs.map Ce.p) o n))[i]? = some d ∧ d.fine ∧ cell.Rightly d ∧ d.p + d.b ≤ c.p + c.b ∧ d.s - d.p ≤ c.s - c.p ∧ d.n ≤ c.n ∧ (pl s.y o ≠ i → d = c) := by
  obtain ⟨hce, hcf, hcr⟩ := cell_is hs hc
  have ho : order.Rightly o := (hs.2.2.2.1.1 o (List.mem_of_getElem? hk)).1
  have hos : ∀ q ∈ s.os, order.Rightly q := fun q hq => (hs.2.2.2.1.1 q hq).1
  have hp := order.took_right ho ht
  obtain ⟨hpl, hd⟩ := pl_same (y := s.y) ho ht
  have hpos : (moved s.y (s.cs.map Ce.p) o n)[i]? = some (if pl s.y o = i then c.p + shift o n else c.p) := by
    simp [moved, List.getElem?_mapIdx, hc]
  refine ⟨_, cells_at hpos, ?_⟩
  have eB := left_sum (w := wB s.y i) hk (fun h3 => (w_done (y := s.y) (i := i) hp h3).1)
  have eS := left_sum (w := wS s.y i) hk (fun h3 => (w_done (y := s.y) (i := i) hp h3).2.1)
  have eN := left_sum (w := wN s.y i) hk (fun h3 => (w_done (y := s.y) (i := i) hp h3).2.2)
  have gB := sum_one (w := wB s.y i) (fun q hq => wB_nn (hos q hq)) hk
  have gS := sum_one (w := wS s.y i) (fun q hq => wS_nn (hos q hq)) hk
  have gN := sum_one (w := wN s.y i) (fun q hq => wN_nn (hos q hq)) hk
  have hw0 : (worth o).2 = 0 := hs.2.2.2.2.2.2.1.1 o (List.mem_of_getElem? hk)
  obtain ⟨w', hw', hwl⟩ := order.took_worth ho ht (a := (worth o).1) (by rw [← hw0])
  have hwn : 0 ≤ (worth p).1 := cell.worth_nn hp
  have hwl' : (worth p).1 ≤ (worth o).1 := by rw [hw']; exact hwl
  have hon := cell.open_nn hp
  have hol := order.took_open ho ht
  have hfill : n.t = 3 → open_ p + n.q ≤ open_ o ∧ 1 ≤ n.q := fun h3 => by
    have hq := (order.noteOk_iff.1 hn).2.2
    rw [h3] at hq
    have h1 := (order.tell_fill hq).1
    exact ⟨took_fill ho ht h3 h1, h1⟩
  have hside : o.d = 1 ∨ o.d = 2 := by unfold order.Rightly at ho; omega
  have cb : c.b = sum (wB s.y i) s.os := by rw [hce]; rfl
  have csl : c.s = sum (wS s.y i) s.os := by rw [hce]; rfl
  have cn : c.n = sum (wN s.y i) s.os := by rw [hce]; rfl
  by_cases hi : pl s.y o = i
  · rw [if_pos hi]
    have b1 : wB s.y i o = if o.d = 1 then open_ o else 0 := by unfold wB; simp [hi]
    have b2 : wB s.y i p = if o.d = 1 then open_ p else 0 := by unfold wB; rw [hpl, hd]; simp [hi]
    have s1 : wS s.y i o = if o.d = 1 then 0 else open_ o := by unfold wS; by_cases h : o.d = 1 <;> simp [hi, h]
    have s2 : wS s.y i p = if o.d = 1 then 0 else open_ p := by unfold wS; rw [hpl, hd]; by_cases h : o.d = 1 <;> simp [hi, h]
    have n1 : wN s.y i o = (worth o).1 := by unfold wN; simp [hi]
    have n2 : wN s.y i p = (worth p).1 := by unfold wN; rw [hpl]; simp [hi]
    rw [b1, b2] at eB
    rw [b1] at gB
    rw [s1, s2] at eS
    rw [s1] at gS
    rw [n1, n2] at eN
    rw [n1] at gN
    unfold cellAt
    rw [eB, eS, eN, ← cb, ← csl, ← cn]
    rw [← cb] at gB
    rw [← csl] at gS
    rw [← cn] at gN
    unfold shift
    generalize open_ o = x at *
    generalize open_ p = x' at *
    generalize (worth o).1 = z at *
    generalize (worth p).1 = z' at *
    clear eB eS eN b1 b2 s1 s2 n1 n2 hce cb csl cn hpos
    obtain ⟨cp, cb, cs, cn⟩ := c
    unfold Ce.fine inR at *
    unfold cell.Rightly at *
    simp only at *
    by_cases h3 : n.t = 3
    · have := hfill h3
      rcases hside with e | e <;> simp only [h3, e, if_true, if_false, show ¬ (2 : Int) = 1 by decide] at * <;> refine ⟨?_, ?_, ?_, ?_, ?_, ?_⟩ <;> first | omega | (intro h; exact absurd hi h)
    · rcases hside with e | e <;> simp only [h3, e, if_true, if_false, show ¬ (2 : Int) = 1 by decide] at * <;> refine ⟨?_, ?_, ?_, ?_, ?_, ?_⟩ <;> first | omega | (intro h; exact absurd hi h)
  · rw [if_neg hi]
    have z1 : wB s.y i o = 0 := by unfold wB; simp [hi]
    have z2 : wB s.y i p = 0 := by unfold wB; rw [hpl]; simp [hi]
    have z3 : wS s.y i o = 0 := by unfold wS; simp [hi]
    have z4 : wS s.y i p = 0 := by unfold wS; rw [hpl]; simp [hi]
    have z5 : wN s.y i o = 0 := by unfold wN; simp [hi]
    have z6 : wN s.y i p = 0 := by unfold wN; rw [hpl]; simp [hi]
    have he : cellAt s.y i c.p (left_ s.os k p) = c := by
      rw [hce]
      unfold cellAt
      simp only
      rw [eB, eS, eN, z1, z2, z3, z4, z5, z6]
      simp
    rw [he]
    exact ⟨hcf, hcr, Int.le_refl _, Int.le_refl _, Int.le_refl _, fun _ => rfl⟩

end Go.Proofs.Ytaagpldanbjacaa.book
end
section
namespace Go.Proofs.Ytaagpldanbjacaa.book
open Go.Proofs.Ytaagpldanbjacaa.cell (Ce Ex)
open Go.Proofs.Ytaagpldanbjacaa.order (Or Nt open_ worth Took)
open Go.Proofs.Ytaagpldanbjacaa.rec (Rc)
open Go.Proofs.Ytaagpldanbjacaa.frame (inR)
set_option linter.unusedVariables false
set_option linter.unusedSimpArgs false

theorem ids_set {os : List Or} {k : Nat} {o p : Or} (h : os[k]? = some o) (hi : p.i = o.i) : (os.set k p).map Or.i = os.map Or.i := by
  rw [List.map_set]
  apply List.ext_getElem?
  intro j
  rw [List.getElem?_set]
  split
  · rename_i hj
    subst hj
    have hl := (List.getElem?_eq_some_iff.1 h).1
    rw [if_pos (by simpa using hl), List.getElem?_map, h, hi]
    rfl
  · rfl
theorem pair_ids {os : List Or} : os.Pairwise (fun o p => o.i < p.i) ↔ (os.map Or.i).Pairwise (· < ·) := by rw [List.pairwise_map]
theorem ok_set {a y last : Int} {os : List Or} {k : Nat} {o p : Or} (h : OrdersOk a y last os) (hk : os[k]? = some o) (hp : order.Rightly p) (h3 : p.h ≠ 3) (hi : p.i = o.i) (ha : p.a = o.a) (hy : p.y = o.y) : OrdersOk a y last (os.set k p) := by
  obtain ⟨h1, h2, h4⟩ := h
  have ho := h1 o (List.mem_of_getElem? hk)
  refine ⟨fun q hq => ?_, ?_, by simpa using h4⟩
  · rcases List.mem_or_eq_of_mem_set hq with hq | rfl
    · exact h1 q hq
    · exact ⟨hp, h3, by rw [ha]; exact ho.2.2.1, by rw [hy]; exact ho.2.2.2.1, by rw [hi]; exact ho.2.2.2.2⟩
  · rw [pair_ids, ids_set hk hi, ← pair_ids]; exact h2
theorem ok_erase {a y last : Int} {os : List Or} {k : Nat} (h : OrdersOk a y last os) : OrdersOk a y last (os.eraseIdx k) := by
  obtain ⟨h1, h2, h4⟩ := h
  have hs := List.eraseIdx_sublist os k
  exact ⟨fun q hq => h1 q (hs.subset hq), h2.sublist hs, by have := hs.length_le; omega⟩
theorem ok_snoc {a y last : Int} {os : List Or} {o : Or} (h : OrdersOk a y last os) (hl : os.length < 64) (ho : order.Rightly o) (h3 : o.h ≠ 3) (ha : o.a < a) (hy : o.y < y) (hi : last < o.i) : OrdersOk a y o.i (os ++ [o]) := by
  obtain ⟨h1, h2, h4⟩ := h
  refine ⟨fun q hq => ?_, ?_, by simp; omega⟩
  · rcases List.mem_append.1 hq with hq | hq
    · have := h1 q hq
      exact ⟨this.1, this.2.1, this.2.2.1, this.2.2.2.1, by omega⟩
    · simp at hq; subst hq; exact ⟨ho, h3, ha, hy, Int.le_refl _⟩
  · rw [List.pairwise_append]
    refine ⟨h2, by simp, fun q hq r hr => ?_⟩
    simp at hr; subst hr
    have := (h1 q hq).2.2.2.2
    omega
theorem find_some {os : List Or} {id : Int} {k : Nat} (h : find os id = some k) : ∃ o, os[k]? = some o ∧ o.i = id := by
  unfold find at h
  rw [List.findIdx?_eq_some_iff_getElem] at h
  obtain ⟨hk, h1, _⟩ := h
  exact ⟨os[k], List.getElem?_eq_getElem hk, by simpa using h1⟩
theorem find_at {os : List Or} (hs : os.Pairwise (fun o p => o.i < p.i)) {k : Nat} {o : Or} (h : os[k]? = some o) : find os o.i = some k := by
  unfold find
  rw [List.findIdx?_eq_some_iff_getElem]
  obtain ⟨hk, rfl⟩ := List.getElem?_eq_some_iff.1 h
  refine ⟨hk, by simp, fun j hj => ?_⟩
  have := List.pairwise_iff_getElem.1 hs j k (by omega) hk hj
  simp
  omega
theorem getD_at {α : Type} {l : List α} {k : Nat} {x d : α} (h : l[k]? = some x) : l.getD k d = x := by
  rw [List.getD_eq_getElem?_getD, h]; rfl
theorem moved_len (y : Int) (ps : List Int) (o : Or) (n : Nt) : (moved y ps o n).length = ps.length := by simp [moved]
/-- where a cell stands in a state behind an event, one stood. -/
theorem event_back {s : St} {os : List Or} {o : Or} {n : Nt} {d : Ce} {i : Nat} (h : (cellsOf s.y os (moved s.y (s.cs.map Ce.p) o n))[i]? = some d) : ∃ c, s.cs[i]? = some c := by
  have hl := (List.getElem?_eq_some_iff.1 h).1
  rw [cells_len, moved_len, List.length_map] at hl
  exact ⟨s.cs[i], List.getElem?_eq_getElem hl⟩
theorem event_right {s : St} (hs : Rightly s) {k : Nat} {o : Or} {n : Nt} {p : Or} (hk : s.os[k]? = some o) (ht : Took o n p) (hn : order.noteOk n = true) (hq : s.seq < n.z) :
    Rightly { s with seq := n.z, os := left_ s.os k p, cs := cellsOf s.y (left_ s.os k p) (moved s.y (s.cs.map Ce.p) o n) } := by
  have hs' := hs
  obtain ⟨h1, ⟨h2, h2', h2''⟩, h3, h4, h5, h6, h7, h8⟩ := hs'
  have ho := (h4.1 o (List.mem_of_getElem? hk)).1
  have hp := order.took_right ho ht
  have hsame := order.took_same ho ht
  have hz := (order.noteOk_iff.1 hn).1
  have hlen : (cellsOf s.y (left_ s.os k p) (moved s.y (s.cs.map Ce.p) o n)).length = s.cs.length := by rw [cells_len, moved_len, List.length_map]
  have hn0 : ∀ c ∈ s.cs, 0 ≤ c.n := fun c hc => (h7.2.1 c hc).2.2.2.2.2.2.2
  have hn1 : ∀ d ∈ cellsOf s.y (left_ s.os k p) (moved s.y (s.cs.map Ce.p) o n), d.fine ∧ cell.Rightly d := fun d hd => by
    obtain ⟨i, hi, rfl⟩ := List.getElem_of_mem hd
    have hi' := List.getElem?_eq_getElem hi
    obtain ⟨c, hc⟩ := event_back hi'
    obtain ⟨e, he, h9, h10, _⟩ := event_cell hs hk ht hn hc
    rw [hi'] at he
    rw [Option.some.inj he]
    exact ⟨h9, h10⟩
  refine ⟨h1, ⟨by rw [show ((cellsOf s.y (left_ s.os k p) (moved s.y (s.cs.map Ce.p) o n)).length : Int) = s.cs.length by rw [hlen]]; exact h2, h2', h2''⟩, ⟨h3.1, h3.2.1, by simp only; omega, by simp only; omega, h3.2.2.2.2⟩, ?_, h5, h6, ⟨?_, hn1, ?_⟩, by simp only; rw [cells_pos]⟩
  · unfold left_
    split
    · exact ok_erase h4
    · rename_i h33; exact ok_set h4 hk hp h33 hsame.2.2.1 hsame.2.2.2.1 hsame.2.2.2.2.1
  · intro q hq
    have hq' : q ∈ s.os ∨ q = p := by
      simp only [left_] at hq
      split at hq
      · exact .inl ((List.eraseIdx_sublist _ _).subset hq)
      · exact List.mem_or_eq_of_mem_set hq
    rcases hq' with hq' | rfl
    · exact h7.1 q hq'
    · obtain ⟨b, hb, _⟩ := order.took_worth ho ht (a := (worth o).1) (by rw [← h7.1 o (List.mem_of_getElem? hk)])
      rw [hb]
  · intro j hj
    refine (acc_less hlen hn0 (fun d hd => (hn1 d hd).2.2.2.2.2.2.2) (fun i c d hc hd => ?_) (h7.2.2 j hj)).1
    obtain ⟨e, he, _, _, _, _, h9, _⟩ := event_cell hs hk ht hn hc
    rw [hd] at he
    rw [Option.some.inj he]
    exact h9
theorem put_right {s : St} (hs : Rightly s) {os : List Or} {last : Int} (ho : OrdersOk s.a s.y last os) (hl : 0 ≤ last ∧ last ≤ 1000000000000) (hf : Fits s.a s.y os (put s os).cs) : Rightly { put s os with last := last } := by
  obtain ⟨h1, ⟨h2, h2', h2''⟩, h3, h4, h5, h6, h7, h8⟩ := hs
  refine ⟨h1, ⟨by simp only [put, cells_len, List.length_map]; exact h2, h2', h2''⟩, ⟨hl.1, hl.2, h3.2.2⟩, ho, h5, h6, hf, by simp only [put]; rw [cells_pos]⟩
theorem ask_ok {s t : St} {os : List Or} {a y last : Int} (h : ask s os a y last = (t, 0)) : t = { put s os with last := last } ∧ Fits s.a s.y os (put s os).cs ∧ stands s (put s os) a y = false := by
  unfold ask at h
  split at h
  · rename_i hf
    split at h
    · simp at h
    · rename_i hn
      simp only [Prod.mk.injEq, and_true] at h
      exact ⟨h.symm, hf, by simpa using hn⟩
  · simp at h
theorem ask_err {s t : St} {os : List Or} {a y last e : Int} (h : ask s os a y last = (t, e)) : e = 0 ∨ t = s ∧ (e = 3 ∨ e = 4) := by
  unfold ask at h
  split at h
  · split at h <;> simp only [Prod.mk.injEq] at h <;> obtain ⟨rfl, rfl⟩ := h <;> simp
  · simp only [Prod.mk.injEq] at h; obtain ⟨rfl, rfl⟩ := h; simp

end Go.Proofs.Ytaagpldanbjacaa.book
end
section
namespace Go.Proofs.Ytaagpldanbjacaa.book
open Go.Proofs.Ytaagpldanbjacaa.cell (Ce Ex)
open Go.Proofs.Ytaagpldanbjacaa.order (Or Nt open_ worth Took)
open Go.Proofs.Ytaagpldanbjacaa.rec (Rc)
open Go.Proofs.Ytaagpldanbjacaa.frame (inR)
set_option linter.unusedVariables false
set_option linter.unusedSimpArgs false

/-- what may come of a record that may be done (but for the record's number). -/
inductive Came (s : St) (r : Rc) : St → Prop
  | new {o : Or} : r.k = 1 → s.k = false → s.os.length < 64 → order.begin_ r = (o, 0) → Fits s.a s.y (s.os ++ [o]) (put s (s.os ++ [o])).cs → stands s (put s (s.os ++ [o])) r.a r.y = false → Came s r { put s (s.os ++ [o]) with last := r.o }
  | replace {k : Nat} {o p : Or} : r.k = 2 → s.k = false → s.os[k]? = some o → o.i = r.o → order.change o r.q r.p = (p, 0) → Fits s.a s.y (s.os.set k p) (put s (s.os.set k p)).cs → stands s (put s (s.os.set k p)) o.a o.y = false → Came s r { put s (s.os.set k p) with last := s.last }
  | cancel {k : Nat} {o p : Or} : r.k = 3 → s.os[k]? = some o → o.i = r.o → order.stop o = (p, 0) → Came s r { s with os := s.os.set k p }
  | cap : r.k = 4 → r.y = -1 → Came s r { s with ps := s.ps.set r.a.toNat r.n }
  | bound : r.k = 4 → r.y ≠ -1 → Came s r { s with ls := s.ls.set (place s.y r.a r.y) ⟨r.l, r.s, r.n⟩ }
  | kill : r.k = 5 → Came s r { s with k := r.on }
  | past : r.k = 6 → r.z = s.seq + 1 → Came s r { s with seq := r.z }
  | told {k : Nat} {o p : Or} : r.k = 6 → r.z = s.seq + 1 → s.os[k]? = some o → o.i = r.o → Took o (nt r) p → order.noteOk (nt r) = true → Came s r { s with seq := r.z, os := left_ s.os k p, cs := cellsOf s.y (left_ s.os k p) (moved s.y (s.cs.map Ce.p) o (nt r)) }
theorem do_ok {s t : St} {r : Rc} (h : do_ s r = (t, 0)) : ¬ Wrong s r ∧ ∃ u, Came s r u ∧ t = { u with lsn := s.lsn + 1 } := by
  unfold do_ at h
  split at h
  · simp at h
  rename_i hw
  refine ⟨hw, ?_⟩
  split at h
  · rename_i h1; simp only [Prod.mk.injEq] at h; exact absurd h.2 h1
  rename_i h1
  simp only [ne_eq, Decidable.not_not] at h1
  simp only [Prod.mk.injEq, and_true] at h
  subst h
  refine ⟨_, ?_, rfl⟩
  have hr : rec.right r = true := by
    unfold Wrong at hw
    cases hh : rec.right r
    · exact absurd (.inr (.inl hh)) hw
    · rfl
  have hkind := rec.right_kind hr
  unfold doing at h1 ⊢
  by_cases k1 : r.k = 1
  · rw [if_pos k1] at h1 ⊢
    split at h1
    · simp at h1
    rename_i hk
    rw [if_neg hk]
    split at h1
    · simp at h1
    rename_i hl
    rw [if_neg hl]
    have hb : order.begin_ r = ((order.begin_ r).1, 0) := by unfold order.begin_; rw [if_pos ⟨k1, hr⟩]
    have ha := ask_ok (t := (ask s (s.os ++ [(order.begin_ r).1]) r.a r.y r.o).1) (by rw [← h1])
    rw [ha.1]
    exact .new k1 (by simpa using hk) (by omega) hb ha.2.1 ha.2.2
  rw [if_neg k1] at h1 ⊢
  by_cases k2 : r.k = 2
  · rw [if_pos k2] at h1 ⊢
    cases hf : find s.os r.o with
    | none => rw [hf] at h1; simp at h1
    | some k =>
      rw [hf] at h1
      simp only at h1 ⊢
      obtain ⟨o, ho, hi⟩ := find_some hf
      rw [getD_at ho] at h1 ⊢
      split at h1
      · simp at h1
      rename_i hc
      rw [if_neg hc]
      simp only [ne_eq, Decidable.not_not] at hc
      split at h1
      · simp at h1
      rename_i hk
      rw [if_neg hk]
      have ha := ask_ok (t := (ask s (s.os.set k (order.change o r.q r.p).1) o.a o.y s.last).1) (by rw [← h1])
      rw [ha.1]
      exact .replace k2 (by simpa using hk) ho hi (by rw [← hc]) ha.2.1 ha.2.2
  rw [if_neg k2] at h1 ⊢
  by_cases k3 : r.k = 3
  · rw [if_pos k3] at h1 ⊢
    cases hf : find s.os r.o with
    | none => rw [hf] at h1; simp at h1
    | some k =>
      rw [hf] at h1
      simp only at h1 ⊢
      obtain ⟨o, ho, hi⟩ := find_some hf
      rw [getD_at ho] at h1 ⊢
      split at h1
      · simp at h1
      rename_i hc
      rw [if_neg hc]
      simp only [ne_eq, Decidable.not_not] at hc
      exact .cancel k3 ho hi (by rw [← hc])
  rw [if_neg k3] at h1 ⊢
  by_cases k4 : r.k = 4
  · rw [if_pos k4]
    split
    · rename_i hy; exact .cap k4 hy
    · rename_i hy; exact .bound k4 hy
  rw [if_neg k4] at h1 ⊢
  by_cases k5 : r.k = 5
  · rw [if_pos k5]; exact .kill k5
  rw [if_neg k5] at h1 ⊢
  have k6 : r.k = 6 := by omega
  have hno : order.noteOk (nt r) = true := by
    unfold rec.right rec.may at hr
    rw [Bool.and_eq_true] at hr
    have h2 := hr.1
    simp only [k6, show ¬ (6 : Int) = 1 by decide, show ¬ (6 : Int) = 2 by decide, show ¬ (6 : Int) = 3 by decide, show ¬ (6 : Int) = 4 by decide, show ¬ (6 : Int) = 5 by decide, if_false, if_true, Bool.and_eq_true, decide_eq_true_eq, rec.mayOrder] at h2
    exact order.noteOk_iff.2 ⟨h2.1.1, h2.1.2, h2.2⟩
  unfold event at h1 ⊢
  split at h1
  · simp at h1
  rename_i hz
  rw [if_neg hz]
  have hz' : r.z = s.seq + 1 := by omega
  cases hf : find s.os r.o with
  | none => exact .past k6 hz'
  | some k =>
    obtain ⟨o, ho, hi⟩ := find_some hf
    simp only
    rw [getD_at ho]
    split
    · exact .past k6 hz'
    · rename_i hc
      simp only [ne_eq, Decidable.not_not] at hc
      obtain ⟨_, _, _, ht⟩ := order.take_ok (o := o) (n := nt r) (p := (order.take o (nt r)).1) (by rw [← hc])
      exact .told k6 hz' ho hi ht hno
theorem not_wrong {s : St} {r : Rc} (h : ¬ Wrong s r) : Rightly s ∧ rec.right r = true ∧ s.lsn < 1000000000 ∧ r.a < s.a ∧ r.y < s.y ∧ (r.k = 1 → s.last < r.o) := by
  unfold Wrong at h
  simp only [not_or, Bool.not_eq_false, not_and] at h
  obtain ⟨h1, h2, h3, h4, h5, h6⟩ := h
  exact ⟨right_iff.1 h1, h2, by omega, by omega, by omega, fun hk => by have := h6 hk; omega⟩
theorem stop_ok {o p : Or} (h : order.stop o = (p, 0)) : order.Rightly o ∧ o.g = false ∧ o.h ≠ 3 ∧ p = { o with g := true } := by
  unfold order.stop at h
  split at h
  · simp at h
  rename_i h1
  split at h
  · simp at h
  rename_i h2
  simp only [Prod.mk.injEq, and_true] at h
  exact ⟨order.right_iff.1 (by simpa using h1), by cases hg : o.g; rfl; exact absurd (.inl hg) h2, fun hh => h2 (.inr hh), h.symm⟩
theorem g_same (o : Or) (b : Bool) : open_ { o with g := b } = open_ o ∧ worth { o with g := b } = worth o ∧ (order.Rightly { o with g := b } ↔ order.Rightly o) := by
  refine ⟨rfl, rfl, Iff.rfl⟩
/-- a state with an order that differs in nothing that counts. -/
theorem set_same {s : St} (hs : Rightly s) {k : Nat} {o p : Or} (hk : s.os[k]? = some o) (hp : order.Rightly p) (h3 : p.h ≠ 3) (hi : p.i = o.i) (ha : p.a = o.a) (hy : p.y = o.y) (hd : p.d = o.d) (h1 : open_ p = open_ o) (h2 : worth p = worth o) : Rightly { s with os := s.os.set k p } := by
  obtain ⟨g1, g2, g3, g4, g5, g6, g7, g8⟩ := hs
  have hw : ∀ w : Or → Int, w p = w o → sum w (s.os.set k p) = sum w s.os := fun w h => by rw [sum_set w s.os k o p hk, h]; omega
  have hc : cellsOf s.y (s.os.set k p) (s.cs.map Ce.p) = cellsOf s.y s.os (s.cs.map Ce.p) := by
    unfold cellsOf cellAt
    congr 1
    funext i q
    have hpl : pl s.y p = pl s.y o := by unfold pl; rw [ha, hy]
    rw [hw (wB s.y i) (by unfold wB; rw [hpl, hd, h1]), hw (wS s.y i) (by unfold wS; rw [hpl, hd, h1]), hw (wN s.y i) (by unfold wN; rw [hpl, h2])]
  refine ⟨g1, g2, g3, ok_set g4 hk hp h3 hi ha hy, g5, g6, ⟨fun q hq => ?_, g7.2⟩, ?_⟩
  · rcases List.mem_or_eq_of_mem_set hq with hq | rfl
    · exact g7.1 q hq
    · rw [h2]; exact g7.1 o (List.mem_of_getElem? hk)
  · rw [hc]; exact g8
theorem came_right {s u : St} {r : Rc} (hw : ¬ Wrong s r) (h : Came s r u) : Rightly u ∧ u.lsn = s.lsn ∧ u.a = s.a ∧ u.y = s.y := by
  obtain ⟨hs, hr, hl, ha, hy, hn⟩ := not_wrong hw
  have hs' := hs
  obtain ⟨g1, g2, g3, g4, g5, g6, g7, g8⟩ := hs'
  cases h with
  | new k1 hk hlen hb hf hst =>
    obtain ⟨_, _, hor, he⟩ := order.begin_right hb
    refine ⟨put_right hs ?_ ?_ hf, rfl, rfl, rfl⟩
    · have := ok_snoc (o := ⟨r.o, r.a, r.y, r.d, r.q, r.p, 0, 1, 0, 0, 0, false⟩) g4 hlen (by rw [← he]; exact hor) (by simp) ha hy (hn k1)
      rw [he]; exact this
    · have := order.id_in hor; rw [he] at this; simp only at this; omega
  | replace k2 hk ho hi hc hf hst =>
    obtain ⟨h1, h2, h3, h4, h5, h6, h7, h8, h9⟩ := order.change_ok hc
    refine ⟨put_right hs (ok_set g4 ho (order.change_right hc) (by rw [h9]; simp only; omega) (by rw [h9]) (by rw [h9]) (by rw [h9])) ⟨g3.1, g3.2.1⟩ hf, rfl, rfl, rfl⟩
  | cancel k3 ho hi hc =>
    obtain ⟨h1, h2, h3, h4⟩ := stop_ok hc
    subst h4
    exact ⟨set_same hs ho h1 h3 rfl rfl rfl rfl rfl rfl, rfl, rfl, rfl⟩
  | cap k4 hy1 =>
    refine ⟨⟨g1, ⟨g2.1, g2.2.1, by simpa using g2.2.2⟩, g3, g4, g5, fun c hc => ?_, g7, g8⟩, rfl, rfl, rfl⟩
    rcases List.mem_or_eq_of_mem_set hc with hc | rfl
    · exact g6 c hc
    · unfold rec.right rec.may at hr
      simp [k4, hy1, rec.mayBound] at hr
      omega
  | bound k4 hy1 =>
    refine ⟨⟨g1, ⟨g2.1, by simpa using g2.2.1, g2.2.2⟩, g3, g4, fun c hc => ?_, g6, g7, g8⟩, rfl, rfl, rfl⟩
    rcases List.mem_or_eq_of_mem_set hc with hc | rfl
    · exact g5 c hc
    · unfold rec.right rec.may at hr
      simp [k4, hy1, rec.mayBound] at hr
      unfold LimOk
      simp only
      omega
  | kill k5 => exact ⟨⟨g1, g2, g3, g4, g5, g6, g7, g8⟩, rfl, rfl, rfl⟩
  | past k6 hz =>
    have hz2 : r.z ≤ 1000000000 := by
      unfold rec.right rec.may at hr
      simp [k6] at hr
      omega
    exact ⟨⟨g1, g2, ⟨g3.1, g3.2.1, by simp only; omega, hz2, g3.2.2.2.2⟩, g4, g5, g6, g7, g8⟩, rfl, rfl, rfl⟩
  | told k6 hz ho hi ht hno => exact ⟨event_right hs ho ht hno (by unfold nt; simp only; omega), rfl, rfl, rfl⟩
theorem do_right {s t : St} {r : Rc} (h : do_ s r = (t, 0)) : Rightly t ∧ t.lsn = s.lsn + 1 := by
  obtain ⟨hw, u, hu, rfl⟩ := do_ok h
  obtain ⟨h1, h2, _⟩ := came_right hw hu
  have h3 := (not_wrong hw).2.2.1
  obtain ⟨g1, g2, g3, g4⟩ := h1
  refine ⟨⟨g1, g2, ⟨g3.1, g3.2.1, g3.2.2.1, g3.2.2.2.1, by simp only; omega, by simp only; omega⟩, g4⟩, rfl⟩
theorem do_err {s t : St} {r : Rc} {e : Int} (h : do_ s r = (t, e)) : e = 0 ∨ t = s := by
  unfold do_ at h
  split at h
  · simp only [Prod.mk.injEq] at h; exact .inr h.1.symm
  split at h
  · simp only [Prod.mk.injEq] at h; exact .inr h.1.symm
  · simp only [Prod.mk.injEq] at h; exact .inl h.2.symm

end Go.Proofs.Ytaagpldanbjacaa.book
end
section
namespace Go.Proofs.Ytaagpldanbjacaa.book
open Go.Proofs.Ytaagpldanbjacaa.cell (Ce Ex covers_iff)
open Go.Proofs.Ytaagpldanbjacaa.order (Or Nt open_ worth Took)
open Go.Proofs.Ytaagpldanbjacaa.rec (Rc)
open Go.Proofs.Ytaagpldanbjacaa.frame (inR)
set_option linter.unusedVariables false
set_option linter.unusedSimpArgs false

def exOf (c : Ce) : Ex := ⟨c.p + c.b, c.s - c.p, c.n⟩
theorem of_right {c : Ce} (h : cell.Rightly c) : cell.of_ c = (exOf c, 0) := by unfold cell.of_ exOf; rw [if_pos (cell.right_iff.2 h)]
theorem cs_nn {s : St} (hs : Rightly s) : ∀ c ∈ s.cs, 0 ≤ c.n := fun c hc => (hs.2.2.2.2.2.2.1.2.1 c hc).2.2.2.2.2.2.2
/-- what is open in an account together. -/
def openA (s : St) (j : Nat) : Int := (limit.whole (acc s.y j s.cs)).1
theorem open_fits {s : St} (hs : Rightly s) {j : Nat} (hj : (j : Int) < s.a) : limit.whole (acc s.y j s.cs) = (openA s j, 0) := by
  have := hs.2.2.2.2.2.2.1.2.2 j (List.mem_range.2 (by omega))
  unfold openA
  rw [← this]
/-- no event makes a cell come to more, nor an account's open more. -/
theorem less_cells {s t : St} {r : Rc} (h : do_ s r = (t, 0)) (hk : r.k = 6) : t.cs.length = s.cs.length ∧ (∀ (i : Nat) (c d : Ce), s.cs[i]? = some c → t.cs[i]? = some d → cell.covers (exOf c) (exOf d) = true ∧ d.n ≤ c.n) ∧ t.a = s.a ∧ t.y = s.y ∧ t.last = s.last ∧ t.seq = r.z ∧ r.z = s.seq + 1 ∧ t.lsn = s.lsn + 1 := by
  obtain ⟨hw, u, hu, rfl⟩ := do_ok h
  have hs := (not_wrong hw).1
  have same : ∀ (i : Nat) (c d : Ce), s.cs[i]? = some c → s.cs[i]? = some d → cell.covers (exOf c) (exOf d) = true ∧ d.n ≤ c.n := fun i c d hc hd => by
    rw [hc] at hd
    obtain rfl := Option.some.inj hd
    exact ⟨cell.covers_self _, Int.le_refl _⟩
  cases hu with
  | new k1 => omega
  | replace k1 => omega
  | cancel k1 => omega
  | cap k1 => omega
  | bound k1 => omega
  | kill k1 => omega
  | past k6 hz => exact ⟨rfl, same, rfl, rfl, rfl, rfl, hz, rfl⟩
  | told k6 hz ho hi ht hno =>
    refine ⟨by simp only; rw [cells_len, moved_len, List.length_map], fun i c d hc hd => ?_, rfl, rfl, rfl, rfl, hz, rfl⟩
    obtain ⟨e, he, _, _, h1, h2, h3, _⟩ := event_cell hs ho ht hno hc
    simp only at hd
    rw [hd] at he
    obtain rfl := Option.some.inj he
    exact ⟨covers_iff.2 ⟨h1, h2, h3⟩, h3⟩
theorem less_open {s t : St} {r : Rc} (h : do_ s r = (t, 0)) (hk : r.k = 6) {j : Nat} (hj : (j : Int) < s.a) : openA t j ≤ openA s j := by
  obtain ⟨h1, h2, h3, h4, _⟩ := less_cells h hk
  have hs := (not_wrong (do_ok h).1).1
  have ht := (do_right h).1
  have := acc_less (y := s.y) (j := j) h1 (cs_nn hs) (cs_nn ht) (fun i c d hc hd => (h2 i c d hc hd).2) (by rw [open_fits hs hj])
  unfold openA
  rw [h4]
  exact this.2
/-- other orders than the event's are as they were. -/
theorem less_orders {s t : St} {r : Rc} (h : do_ s r = (t, 0)) (hk : r.k = 6) : (t.os.length = s.os.length ∨ t.os.length = s.os.length - 1 ∧ 0 < s.os.length) ∧ ∀ o ∈ s.os, o.i ≠ r.o → ∃ k, find t.os o.i = some k ∧ t.os[k]? = some o := by
  have ht := (do_right h).1
  obtain ⟨hw, u, hu, rfl⟩ := do_ok h
  have hs := (not_wrong hw).1
  have fin : ∀ o, o ∈ u.os → ∃ k, find u.os o.i = some k ∧ u.os[k]? = some o := fun o ho => by
    obtain ⟨k, hk, rfl⟩ := List.getElem_of_mem ho
    exact ⟨k, find_at ht.2.2.2.1.2.1 (List.getElem?_eq_getElem hk), List.getElem?_eq_getElem hk⟩
  cases hu with
  | new k1 => omega
  | replace k1 => omega
  | cancel k1 => omega
  | cap k1 => omega
  | bound k1 => omega
  | kill k1 => omega
  | past k6 hz => exact ⟨.inl rfl, fun o ho _ => fin o ho⟩
  | told k6 hz hok hi htk hno =>
    rename_i k o p
    have hkl := (List.getElem?_eq_some_iff.1 hok).1
    refine ⟨?_, fun q hq hne => fin q ?_⟩
    · simp only [left_]
      split
      · right; rw [List.length_eraseIdx_of_lt hkl]; exact ⟨rfl, by omega⟩
      · left; simp
    · simp only [left_]
      obtain ⟨j, hj, rfl⟩ := List.getElem_of_mem hq
      have hjk : j ≠ k := by
        rintro rfl
        rw [List.getElem?_eq_getElem hj] at hok
        obtain rfl := Option.some.inj hok
        exact hne hi
      split
      · exact List.mem_eraseIdx_iff_getElem?.2 ⟨j, hjk, List.getElem?_eq_getElem hj⟩
      · refine List.mem_of_getElem? (i := j) ?_
        rw [List.getElem?_set_ne (Ne.symm hjk)]
        exact List.getElem?_eq_getElem hj

end Go.Proofs.Ytaagpldanbjacaa.book
end
