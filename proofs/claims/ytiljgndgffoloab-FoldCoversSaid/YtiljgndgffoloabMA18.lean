/-
  BookHm, LimImplH
-/
import Derived.Test.YtiljgndgffoloabMA15
import Derived.Test.YtiljgndgffoloabMA12
import Derived.Test.YtiljgndgffoloabMA14
import Derived.Test.YtiljgndgffoloabMA13
import Derived.Test.YtiljgndgffoloabMA17
section
namespace Go.Proofs.Ytiljgndgffoloab.book
open Go.RowKit Go.Proofs.Ytiljgndgffoloab
open Go.Proofs.Ytiljgndgffoloab.order (Or Nt open_ worth oz)
open Go.Proofs.Ytiljgndgffoloab.cell (Ce Ex)
open Go.Proofs.Ytiljgndgffoloab.rec (Rc)
set_option linter.unusedVariables false
set_option linter.unusedSimpArgs false

def wv (v : Sv) (A : Option Addr) (c : Nat) : Sv := { v with A1 := A, c1 := c }
def wst (s : St) (os : List Or) : St := { s with os := os }
theorem _root_.Go.Proofs.Ytiljgndgffoloab.InS.later {w w' : World} {v : Sv} {s : St} (h : InS w (Lt w.heap.size) v s) (hb : Below w.heap.size w w') : InS w' (Lt w'.heap.size) v s := (h.below hb).all (fun b hb' => Nat.lt_of_lt_of_le hb' hb.size)
theorem put_is (s : St) (os : List Or) : put s os = { s with os := os, cs := CL (wst s os) } := rfl
theorem adj_pair {os : List Or} (h : ∀ j, j < os.length → 0 < j → (os.getD (j - 1) oz).i < (os.getD j oz).i) : os.Pairwise (fun o p => o.i < p.i) := by
  rw [List.pairwise_iff_getElem]
  have key : ∀ d i, (hi : i + d + 1 < os.length) → (os.getD i oz).i < (os.getD (i + d + 1) oz).i := by
    intro d
    induction d with
    | zero => intro i hi; have := h (i + 1) hi (by omega); simpa using this
    | succ d ih =>
      intro i hi
      have h1 := ih i (by omega)
      have h2 := h (i + d + 1 + 1) (by omega) (by omega)
      rw [Nat.add_sub_cancel] at h2
      rw [show i + (d + 1) + 1 = i + d + 1 + 1 by omega]
      omega
  intro i j hi hj hij
  have := key (j - i - 1) i (by omega)
  rw [show i + (j - i - 1) + 1 = j by omega] at this
  simpa [List.getD, List.getElem?_eq_getElem hi, List.getElem?_eq_getElem hj] using this
theorem mem_getD {α : Type} {xs : List α} {x : α} (z : α) (h : x ∈ xs) : ∃ j, j < xs.length ∧ xs.getD j z = x := by
  obtain ⟨j, hj, e⟩ := List.getElem_of_mem h
  exact ⟨j, hj, by simpa [List.getD, List.getElem?_eq_getElem hj] using e⟩
theorem lim_iff {l : Ex} : limit.right l = true ↔ LimOk l := by unfold limit.right LimOk; rw [decide_eq_true_eq]
def Lens (s : St) : Prop := (1 ≤ s.a ∧ s.a ≤ 8 ∧ 1 ≤ s.y ∧ s.y ≤ 8) ∧ (s.cs.length : Int) = s.a * s.y ∧ (s.ls.length : Int) = s.a * s.y ∧ (s.ps.length : Int) = s.a
theorem Lens.range {s : St} (h : Lens s) : InRange (wst s []) := ⟨h.1, h.2.1, fun o ho => by simp [wst] at ho⟩
theorem lim_rng {s : St} {a : Int} (hL : Lens s) (ha : 0 ≤ a ∧ a < s.a) : a * s.y = ((a.toNat * s.y.toNat : Nat) : Int) ∧ (a + 1) * s.y = (((a.toNat + 1) * s.y.toNat : Nat) : Int) ∧ a.toNat * s.y.toNat ≤ (a.toNat + 1) * s.y.toNat ∧ (a.toNat + 1) * s.y.toNat - a.toNat * s.y.toNat = s.y.toNat ∧ (a.toNat + 1) * s.y.toNat ≤ s.cs.length ∧ (a.toNat + 1) * s.y.toNat ≤ 64 ∧ s.y.toNat ≤ 8 ∧ 1 ≤ s.a ∧ s.a ≤ 8 := by
  have e : ((a.toNat : Nat) : Int) = a := Int.toNat_of_nonneg ha.1
  obtain ⟨h1, h2, h3, h4, h5, h6⟩ := acc_rng hL.range (j := a.toNat) (by show ((a.toNat : Nat) : Int) < s.a; omega)
  have h7 := hL.1
  simp only [wst] at h1 h2 h3 h4 h5 h6
  rw [e] at h2
  rw [show ((a.toNat + 1 : Nat) : Int) = a + 1 by omega] at h3
  exact ⟨h2, h3, h5, h6, h1, h4, by omega, h7.1, h7.2.1⟩
def fk (os : List Or) (id : Int) : Nat := (findI os id).toNat
theorem find_lt {os : List Or} {id : Int} (h : ¬ findI os id < 0) : findI os id = ((fk os id : Nat) : Int) ∧ fk os id < os.length ∧ find os id = some (fk os id) := by
  unfold fk
  unfold findI at *
  cases hf : find os id with
  | none => rw [hf] at h; simp at h
  | some k =>
    have := List.findIdx?_eq_some_iff_getElem.1 hf
    simp only [Int.toNat_natCast]
    exact ⟨trivial, this.1, trivial⟩
theorem find_none {os : List Or} {id : Int} (h : findI os id < 0) : find os id = none := by
  unfold findI at h
  cases hf : find os id with
  | none => rfl
  | some k => rw [hf] at h; simp at h; omega
theorem Lens.of {s : St} (h : Rightly s) : Lens s := ⟨h.1, h.2.1.1, h.2.1.2.1, h.2.1.2.2⟩
theorem change_is {o : Or} {x z : Int} (h : (order.change o x z).2 = 0) : order.Rightly (order.change o x z).1 ∧ (order.change o x z).1.a = o.a ∧ (order.change o x z).1.y = o.y := by
  have hc : order.change o x z = ((order.change o x z).1, 0) := by rw [← h]
  have h1 := order.change_right hc
  have h2 := (order.change_ok hc).2.2.2.2.2.2.2.2
  refine ⟨h1, ?_, ?_⟩
  · rw [h2]
  · rw [h2]
theorem begin_is {r : Rc} (hk : r.k = 1) (hr : rec.right r = true) : order.Rightly (order.begin_ r).1 ∧ (order.begin_ r).1.a = r.a ∧ (order.begin_ r).1.y = r.y := by
  have hb : order.begin_ r = (⟨r.o, r.a, r.y, r.d, r.q, r.p, 0, 1, 0, 0, 0, false⟩, 0) := by unfold order.begin_; rw [if_pos ⟨hk, hr⟩]
  have := (order.begin_right hb).2.2.1
  rw [hb]; exact ⟨this, rfl, rfl⟩
/-! what is done, case by case. -/
section
variable {s : St} {r : Rc} {L : List Or} {a y la : Int}
theorem ask_over (h : cellsOk (wst s L) = false) : ask s L a y la = (s, 3) := by
  unfold ask; rw [if_neg (fun hf => by have := (ok_iff (s := wst s L)).2 hf; rw [h] at this; cases this)]
theorem ask_lim (h : cellsOk (wst s L) = true) (h2 : stands s (put s L) a y = true) : ask s L a y la = (s, 4) := by
  unfold ask; rw [if_pos (show Fits s.a s.y L (put s L).cs from ok_iff.1 h), if_pos h2]
theorem ask_done (h : cellsOk (wst s L) = true) (h2 : stands s (put s L) a y = false) : ask s L a y la = ({ put s L with last := la }, 0) := by
  unfold ask; rw [if_pos (show Fits s.a s.y L (put s L).cs from ok_iff.1 h), if_neg (by rw [h2]; decide)]
theorem doing_kill1 (hk : r.k = 1) (h : s.k = true) : doing s r = (s, 5) := by unfold doing; rw [if_pos hk, if_pos h]
theorem doing_full (hk : r.k = 1) (h : s.k = false) (h2 : 64 ≤ s.os.length) : doing s r = (s, 6) := by unfold doing; rw [if_pos hk, if_neg (by rw [h]; decide), if_pos h2]
theorem doing_new (hk : r.k = 1) (h : s.k = false) (h2 : ¬ 64 ≤ s.os.length) : doing s r = ask s (s.os ++ [(order.begin_ r).1]) r.a r.y r.o := by unfold doing; rw [if_pos hk, if_neg (by rw [h]; decide), if_neg h2]
theorem doing_none (hk : r.k = 2) (hf : findI s.os r.o < 0) : doing s r = (s, 7) := by unfold doing; rw [if_neg (by omega), if_pos hk, find_none hf]
theorem doing_not (hk : r.k = 2) (hf : ¬ findI s.os r.o < 0) (h : ¬ (order.change (s.os.getD (fk s.os r.o) oz) r.q r.p).2 = 0) : doing s r = (s, 8) := by
  unfold doing; rw [if_neg (by omega), if_pos hk, (find_lt hf).2.2]; simp only; rw [if_pos h]
theorem doing_kill2 (hk : r.k = 2) (hf : ¬ findI s.os r.o < 0) (h : (order.change (s.os.getD (fk s.os r.o) oz) r.q r.p).2 = 0) (h2 : s.k = true) : doing s r = (s, 5) := by
  unfold doing; rw [if_neg (by omega), if_pos hk, (find_lt hf).2.2]; simp only; rw [if_neg (by omega), if_pos h2]
theorem doing_rep (hk : r.k = 2) (hf : ¬ findI s.os r.o < 0) (h : (order.change (s.os.getD (fk s.os r.o) oz) r.q r.p).2 = 0) (h2 : s.k = false) :
    doing s r = ask s (s.os.set (fk s.os r.o) (order.change (s.os.getD (fk s.os r.o) oz) r.q r.p).1) (s.os.getD (fk s.os r.o) oz).a (s.os.getD (fk s.os r.o) oz).y s.last := by
  unfold doing; rw [if_neg (by omega), if_pos hk, (find_lt hf).2.2]; simp only; rw [if_neg (by omega), if_neg (by rw [h2]; decide)]
end
/-! states that are handed back. -/
def Sn (S : Nat → Prop) (w w' : World) : Nat → Prop := fun k => S k ∨ (w.heap.size ≤ k ∧ k < w'.heap.size)
theorem low_in {w w' : World} {S : Nat → Prop} {v : Sv} {s : St} (h : InS w S v s) (hS : ∀ k, S k → k < w.heap.size) (hb : Below w.heap.size w w') : InS w' (Sn S w w') v s :=
  h.keep (fun b o hk => hb.cell (p := ⟨b, o, none⟩) (hS b hk)) (fun _ h => .inl h)
theorem q_same {w : World} {D : List Fact} {S : Nat → Prop} {v : Sv} {s t : St} {e c : Int} (h : InS w S v s) (hS : ∀ k, S k → k < w.heap.size) (hd : (s, e) = (t, c)) :
    ∃ x : Sv, (.tuple #[.agg (stc v s), .int .i64 e] : Value) = .tuple #[.agg (stc x t), .int .i64 c] ∧ Concl w D (fun w' => InS w' (Sn S w w') x t) := by
  simp only [Prod.mk.injEq] at hd
  obtain ⟨rfl, rfl⟩ := hd
  exact ⟨v, rfl, fun w' hb _ _ => low_in h hS hb⟩
theorem own_or {w w' : World} {D : List Fact} {S : Nat → Prop} {A : Option Addr} {n c : Nat} {L : List Or} {i : Nat} (hi : D[i]? = some (ownF rdOrder 12 47 A n c L)) (ha : All D w') (hy : ∀ f ∈ D, ∀ k, f.S k → w.heap.size ≤ k ∧ k < w'.heap.size) : Elems rdOrder 12 w' (Sn S w w') A L ∧ n ≤ c ∧ c ≤ maxLen :=
  ⟨own_new keeps_order (by decide) (row_at hi w' ha) (fun k hk => .inr (hy _ (List.mem_of_getElem? hi) k hk)) (fun h => h), (row_at hi w' ha).cap⟩
theorem own_ce {w w' : World} {D : List Fact} {S : Nat → Prop} {A : Option Addr} {n c : Nat} {L : List Ce} {i : Nat} (hi : D[i]? = some (ownF rdCell 4 49 A n c L)) (ha : All D w') (hy : ∀ f ∈ D, ∀ k, f.S k → w.heap.size ≤ k ∧ k < w'.heap.size) : Elems rdCell 4 w' (Sn S w w') A L ∧ n ≤ c ∧ c ≤ maxLen :=
  ⟨own_new keeps_cell (by decide) (row_at hi w' ha) (fun k hk => .inr (hy _ (List.mem_of_getElem? hi) k hk)) (fun h => h), (row_at hi w' ha).cap⟩
def ntc (n : Nt) : Array Value := #[.int .i64 n.z, .int .i64 n.t, .int .i64 n.o, .int .i64 n.q, .int .i64 n.p]
theorem rec_note {r : Rc} (hr : rec.right r = true) (k6 : r.k = 6) : order.noteOk (nt r) = true := by
  unfold rec.right rec.may at hr
  rw [Bool.and_eq_true] at hr
  have h2 := hr.1
  simp only [k6, show ¬ (6 : Int) = 1 by decide, show ¬ (6 : Int) = 2 by decide, show ¬ (6 : Int) = 3 by decide, show ¬ (6 : Int) = 4 by decide, show ¬ (6 : Int) = 5 by decide, if_false, if_true, Bool.and_eq_true, decide_eq_true_eq, rec.mayOrder] at h2
  exact order.noteOk_iff.2 ⟨h2.1.1, h2.1.2, h2.2⟩
/-- the order that the record speaks of, and what it is then. -/
def eo (s : St) (r : Rc) : Or := s.os.getD (fk s.os r.o) oz
def ep (s : St) (r : Rc) : Or := (order.take (eo s r) (nt r)).1
section
variable {s : St} {r : Rc}
theorem ev_gap (h : ¬ r.z - 1 = s.seq) : event s r = (s, 11) := by unfold event; rw [if_pos h]
theorem ev_none (h : r.z - 1 = s.seq) (hf : findI s.os r.o < 0) : event s r = ({ s with seq := r.z }, 0) := by
  unfold event; rw [if_neg (by omega), find_none hf]
theorem ev_not (h : r.z - 1 = s.seq) (hf : ¬ findI s.os r.o < 0) (h2 : ¬ (order.take (eo s r) (nt r)).2 = 0) : event s r = ({ s with seq := r.z }, 0) := by
  unfold event; rw [if_neg (by omega), (find_lt hf).2.2]; simp only; exact if_pos h2
/-- the state behind an event that an order takes. -/
def ev_st (s : St) (r : Rc) : St := { s with seq := r.z, os := left_ s.os (fk s.os r.o) (ep s r), cs := cellsOf s.y (left_ s.os (fk s.os r.o) (ep s r)) (moved s.y (s.cs.map Ce.p) (eo s r) (nt r)) }
theorem ev_yes (h : r.z - 1 = s.seq) (hf : ¬ findI s.os r.o < 0) (h2 : (order.take (eo s r) (nt r)).2 = 0) : event s r = (ev_st s r, 0) := by
  unfold event; rw [if_neg (by omega), (find_lt hf).2.2]; simp only; exact if_neg (fun h3 => h3 h2)
theorem eo_at (hf : ¬ findI s.os r.o < 0) : s.os[fk s.os r.o]? = some (eo s r) := at_getD (find_lt hf).2.1
theorem ev_took (h2 : (order.take (eo s r) (nt r)).2 = 0) : order.Rightly (eo s r) ∧ order.Took (eo s r) (nt r) (ep s r) := by
  have := order.take_ok (o := eo s r) (n := nt r) (p := ep s r) (by unfold ep; rw [← h2])
  exact ⟨this.1, this.2.2.2⟩
theorem ep_same (h2 : (order.take (eo s r) (nt r)).2 = 0) : (ep s r).a = (eo s r).a ∧ (ep s r).y = (eo s r).y ∧ (ep s r).d = (eo s r).d := by
  have := order.took_same (ev_took h2).1 (ev_took h2).2
  exact ⟨this.2.2.2.1, this.2.2.2.2.1, this.2.2.2.2.2.1⟩
theorem ep_fine (hs : s.os.getD (fk s.os r.o) oz |>.fine) (h2 : (order.take (eo s r) (nt r)).2 = 0) : (ep s r).fine := order.take_fine (e := (order.take (eo s r) (nt r)).2) (o := eo s r) (n := nt r) hs rfl
end
theorem rec_kind {r : Rc} (hr : rec.right r = true) : 1 ≤ r.k ∧ r.k ≤ 6 := by
  unfold rec.right rec.may at hr
  rw [Bool.and_eq_true] at hr
  have h := hr.1
  repeat' split at h
  all_goals first | omega | cases h
theorem rec_bound {r : Rc} (hr : rec.right r = true) (k4 : r.k = 4) : 0 ≤ r.a ∧ (¬ r.y = -1 → 0 ≤ r.y) := by
  unfold rec.right rec.may at hr
  rw [Bool.and_eq_true] at hr
  have h := hr.1
  rw [if_neg (by omega), if_neg (by omega), if_neg (by omega), if_pos k4, Bool.and_eq_true] at h
  have h1 : 0 ≤ r.a := by have := h.1; unfold rec.mayAcc at this; simp at this; omega
  refine ⟨h1, fun hy => ?_⟩
  have h2 := h.2
  unfold rec.mayBound at h2
  rw [if_neg hy, Bool.and_eq_true] at h2
  have := h2.1; unfold rec.mayAcc at this; simp at this; omega
section
variable {s : St} {r : Rc}
theorem do_wrong (h : Wrong s r) : do_ s r = (s, 1) := by unfold do_; rw [if_pos h]
theorem do_no {e : Int} {t : St} (h : ¬ Wrong s r) (hd : doing s r = (t, e)) (he : ¬ e = 0) : do_ s r = (s, e) := by unfold do_; rw [if_neg h, hd]; exact if_pos he
theorem do_yes {t : St} (h : ¬ Wrong s r) (hd : doing s r = (t, 0)) : do_ s r = ({ t with lsn := s.lsn + 1 }, 0) := by unfold do_; rw [if_neg h, hd]; exact if_neg (by simp)
theorem wrong_no (h1 : right s = true) (h2 : rec.right r = true) (h3 : ¬ 1000000000 ≤ s.lsn) (h4 : r.a < s.a) (h5 : r.y < s.y) (h6 : r.k = 1 → s.last < r.o) : ¬ Wrong s r := by
  unfold Wrong
  rw [h1, h2]
  simp only [Bool.true_eq_false, false_or, not_or]
  exact ⟨by omega, by omega, by omega, fun h => by have := h6 h.1; omega⟩
theorem doing_event (h1 : ¬ r.k = 1) (h2 : ¬ r.k = 2) (h3 : ¬ r.k = 3) (h4 : ¬ r.k = 4) (h5 : ¬ r.k = 5) : doing s r = event s r := by unfold doing; rw [if_neg h1, if_neg h2, if_neg h3, if_neg h4, if_neg h5]
theorem doing_switch (h5 : r.k = 5) : doing s r = ({ s with k := r.on }, 0) := by unfold doing; rw [if_neg (by omega), if_neg (by omega), if_neg (by omega), if_neg (by omega), if_pos h5]
theorem doing_cap (h4 : r.k = 4) (hy : r.y = -1) : doing s r = ({ s with ps := s.ps.set r.a.toNat r.n }, 0) := by unfold doing; rw [if_neg (by omega), if_neg (by omega), if_neg (by omega), if_pos h4, if_pos hy]
theorem doing_lim (h4 : r.k = 4) (hy : ¬ r.y = -1) : doing s r = ({ s with ls := s.ls.set (place s.y r.a r.y) ⟨r.l, r.s, r.n⟩ }, 0) := by unfold doing; rw [if_neg (by omega), if_neg (by omega), if_neg (by omega), if_pos h4, if_neg hy]
theorem doing_gone (h3 : r.k = 3) (hf : findI s.os r.o < 0) : doing s r = (s, 7) := by unfold doing; rw [if_neg (by omega), if_neg (by omega), if_pos h3, find_none hf]
theorem doing_stop_no (h3 : r.k = 3) (hf : ¬ findI s.os r.o < 0) (h : ¬ (order.stop (s.os.getD (fk s.os r.o) oz)).2 = 0) : doing s r = (s, 8) := by
  unfold doing; rw [if_neg (by omega), if_neg (by omega), if_pos h3, (find_lt hf).2.2]; simp only; exact if_pos h
theorem doing_stop (h3 : r.k = 3) (hf : ¬ findI s.os r.o < 0) (h : (order.stop (s.os.getD (fk s.os r.o) oz)).2 = 0) : doing s r = ({ s with os := s.os.set (fk s.os r.o) (order.stop (s.os.getD (fk s.os r.o) oz)).1 }, 0) := by
  unfold doing; rw [if_neg (by omega), if_neg (by omega), if_pos h3, (find_lt hf).2.2]; simp only; exact if_neg (fun h9 => h9 h)
end
theorem keeps_in (s : St) : Keeps3 (fun w S v => InS w S v s) := fun w w' S S' v h ha hs => h.keep ha.alike hs
theorem own_ex {w w' : World} {D : List Fact} {S : Nat → Prop} {A : Option Addr} {n c : Nat} {L : List Ex} {i : Nat} (hi : D[i]? = some (ownF rdExpo 3 43 A n c L)) (ha : All D w') (hy : ∀ f ∈ D, ∀ k, f.S k → w.heap.size ≤ k ∧ k < w'.heap.size) : Elems rdExpo 3 w' (Sn S w w') A L ∧ n ≤ c ∧ c ≤ maxLen :=
  ⟨own_new keeps_expo (by decide) (row_at hi w' ha) (fun k hk => .inr (hy _ (List.mem_of_getElem? hi) k hk)) (fun h => h), (row_at hi w' ha).cap⟩
theorem own_in {w w' : World} {D : List Fact} {S : Nat → Prop} {A : Option Addr} {n c : Nat} {L : List Int} {i : Nat} (hi : D[i]? = some (ownF (rdInt .i64) 1 2 A n c L)) (ha : All D w') (hy : ∀ f ∈ D, ∀ k, f.S k → w.heap.size ≤ k ∧ k < w'.heap.size) : Elems (rdInt .i64) 1 w' (Sn S w w') A L ∧ n ≤ c ∧ c ≤ maxLen :=
  ⟨own_new (keeps_int _) (by decide) (row_at hi w' ha) (fun k hk => .inr (hy _ (List.mem_of_getElem? hi) k hk)) (fun h => h), (row_at hi w' ha).cap⟩
section
variable {w : World} {D : List Fact} {S : Nat → Prop} {v : Sv} {s : St} {t : St × Int}
end
end Go.Proofs.Ytiljgndgffoloab.book
end
section
namespace Go.Proofs.Ytiljgndgffoloab.limit
open Go.RowKit Go.Proofs.Ytiljgndgffoloab Go.Proofs.Ytiljgndgffoloab.cell Go.Proofs.Ytiljgndgffoloab.num
set_option linter.unusedVariables false
set_option linter.unusedSimpArgs false
set_option maxRecDepth 20000

/-- what the first k have open, and 0 for the others. -/
def opens (k : Nat) (xs : List Ce) : List Int := (xs.map Ce.n).take k ++ List.replicate (xs.length - k) 0
theorem opens_zero (xs : List Ce) : opens 0 xs = List.replicate xs.length 0 := rfl
theorem opens_end {xs : List Ce} {k : Nat} (h : xs.length ≤ k) : opens k xs = xs.map Ce.n := by
  unfold opens
  rw [List.take_of_length_le (by simpa using h), Nat.sub_eq_zero_of_le h]
  simp
theorem opens_set {xs : List Ce} {k : Nat} (h : k < xs.length) : (opens k xs).set k ((xs.getD k cell.cz).n) = opens (k + 1) xs := by
  unfold opens
  have e : xs.length - k = (xs.length - (k + 1)) + 1 := by omega
  have hl : ((xs.map Ce.n).take k).length = k := by simp; omega
  rw [List.set_append, if_neg (by omega), hl, Nat.sub_self, e, List.replicate_succ, List.set_cons_zero]
  rw [List.take_add_one, List.getElem?_map, at_getD (z := cell.cz) h]
  simp
theorem wf_of {k : Int} (h : inI k) : (Lit.int .i64 k).wf = true := by
  simpa [Lit.wf, IntKind.min, IntKind.max, IntKind.signed, IntKind.bits, inI] using h
theorem gives_total {w0 : World} {D : List Fact} {j : Nat} {A : Option Addr} {n c : Nat} {ys : List Int} {s e : Int} (h : D[j]? = some (ownF (rdInt .i64) 1 2 A n c ys)) (hy : ys.length = n) (hw : (num.totV (num.tot 0 ys), num.totE (num.tot 0 ys)) = (s, e)) (hm : n ≤ 100) : Gives Try.prog w0 D 55 #[.slice A n c] (.tuple #[.int .i64 s, .int .i64 e]) := by
  intro w _ ha
  have hi := (ints_own (row_at h w ha)).ints
  simp only [Prod.mk.injEq] at hw
  rw [← hw.1, ← hw.2]
  exact (num.total_any A n c _ ys w hi hy (by omega)).mono (by rintro e w' ⟨rfl, rfl⟩; exact ⟨rfl, Below.refl _ _⟩)

theorem whole_is (A : Option Addr) (n c B : Nat) (xs : List Ce) {s e : Int} (w : World) (hx : Cls w B A xs) (hB : B ≤ w.heap.size) (hn : xs.length = n) (hm : n ≤ 100) (h : whole xs = (s, e))  : Calls Try.prog 35 #[.slice A n c] w fun e' w' => e' = .returned (.tuple #[.int .i64 s, .int .i64 e]) ∧ Below w.heap.size w w' :=
  have hf : ∀ k, k < n → inI (xs.getD k cell.cz).n := fun k hk => (hx.fine _ (List.mem_of_getElem? (at_getD (by omega)))).2.2.2
  calls_by (fn := Try.f35) (r := .tuple #[.int .i64 s, .int .i64 e]) (t := .w (Nat) none (fun x => .slice (some ⟨x, 0, none⟩) n n) (fun x => [ownF (rdInt .i64) 1 2 (some ⟨x, 0, none⟩) n n (List.replicate n 0)]) (fun x1 => .l (Nat) (fun x => [(4, .slice (some ⟨x1, 0, none⟩) n n, none), (10, .slice A n c, none), (11, .int .i64 (n : Int), none), (12, .int .i64 (x : Int), none)]) (fun x => []) [] [] (fun x => [ownF (rdInt .i64) 1 2 (some ⟨x1, 0, none⟩) n n (opens x xs)]) (fun x => x ≤ n) (fun x => n - x) (0 : Nat) (fun y2 => .s (.p (blkA A) (offA A + y2 * 4) (cell.cc (xs.getD y2 cell.cz)) (.x (.pointer (some ⟨blkA (some ⟨x1, 0, none⟩), offA (some ⟨x1, 0, none⟩) + y2 * 1, none⟩)) (.w (Unit) (some 0) (fun x => undef) (fun x => [ownF (rdInt .i64) 1 2 (some ⟨x1, 0, none⟩) n n (opens (y2 + 1) xs)]) (fun x6 => .e (.int .i64 ((y2 + 1 : Nat) : Int)) .z)))) (.c (.tuple #[.int .i64 s, .int .i64 e]) .z)))) (X :=
 StepM Try.prog w [] (Instr.makeSlice 25 (.int .i64 (n : Int)) (.int .i64 (n : Int))) (fun _ => False) (Nat) (fun x => .slice (some ⟨x, 0, none⟩) n n) (fun x => [ownF (rdInt .i64) 1 2 (some ⟨x, 0, none⟩) n n (List.replicate n 0)]) ∧ ∀ x1 : Nat, Brings w [ownF (rdInt .i64) 1 2 (some ⟨x1, 0, none⟩) n n (List.replicate n 0)] [] ∧ ((0 : Nat) ≤ n) ∧ (([.slice (some ⟨x1, 0, none⟩) n n, .slice A n c, .int .i64 (n : Int), .int .i64 0] : List Value) = [.slice (some ⟨x1, 0, none⟩) n n, .slice A n c, .int .i64 (n : Int), .int .i64 ((0 : Nat) : Int)] ∧ ([] : List (Option Blk)) = [] ∧ Turns w [ownF (rdInt .i64) 1 2 (some ⟨x1, 0, none⟩) n n (List.replicate n 0)] [ownF (rdInt .i64) 1 2 (some ⟨x1, 0, none⟩) n n (opens (0 : Nat) xs)]) ∧ true = true ∧ ∀ (y2 : Nat), (y2 ≤ n) → ∀ τ4 : Nat → Value, ((decide ((y2 : Int) < (n : Int))) = true → Yields0 Try.prog w [ownF (rdInt .i64) 1 2 (some ⟨x1, 0, none⟩) n n (opens y2 xs)] (Instr.indexAt 23 (.slice A n c) (.int .i64 (y2 : Int))) (.pointer (some ⟨blkA A, offA A + y2 * 4, none⟩)) ∧ Reads0 w [] (blkA A) (offA A + y2 * 4) (cell.cc (xs.getD y2 cell.cz)) ∧ ∀ g1 : Nat, Yields0 Try.prog w [ownF (rdInt .i64) 1 2 (some ⟨x1, 0, none⟩) n n (opens y2 xs)] (Instr.indexAt 25 (.slice (some ⟨x1, 0, none⟩) n n) (.int .i64 (y2 : Int))) (.pointer (some ⟨blkA (some ⟨x1, 0, none⟩), offA (some ⟨x1, 0, none⟩) + y2 * 1, none⟩)) ∧ StepU Try.prog w [ownF (rdInt .i64) 1 2 (some ⟨x1, 0, none⟩) n n (opens y2 xs)] (Instr.storeAt 2 (.pointer (some ⟨blkA (some ⟨x1, 0, none⟩), offA (some ⟨x1, 0, none⟩) + y2 * 1, none⟩)) (.int .i64 ((xs.getD y2 cell.cz).n))) ((ownF (rdInt .i64) 1 2 (some ⟨x1, 0, none⟩) n n (opens y2 xs)).S) (Unit) (fun x => undef) (fun x => [ownF (rdInt .i64) 1 2 (some ⟨x1, 0, none⟩) n n (opens (y2 + 1) xs)]) ∧ ∀ x6 : Unit, (.int .i64 (IntKind.i64.wrap ((y2 : Int) + 1)) : Value) = .int .i64 ((y2 + 1 : Nat) : Int) ∧ ∃ x' : Nat, (x' ≤ n) ∧ (n - x' < n - y2) ∧ (([.slice (some ⟨x1, 0, none⟩) n n, .slice A n c, .int .i64 (n : Int), .int .i64 ((y2 + 1 : Nat) : Int)] : List Value) = [.slice (some ⟨x1, 0, none⟩) n n, .slice A n c, .int .i64 (n : Int), .int .i64 (x' : Int)] ∧ ([] : List (Option Blk)) = [] ∧ Turns w [ownF (rdInt .i64) 1 2 (some ⟨x1, 0, none⟩) n n (opens (y2 + 1) xs)] [ownF (rdInt .i64) 1 2 (some ⟨x1, 0, none⟩) n n (opens x' xs)]) ∧ true = true) ∧ ((decide ((y2 : Int) < (n : Int))) = false → Gives Try.prog w [ownF (rdInt .i64) 1 2 (some ⟨x1, 0, none⟩) n n (opens y2 xs)] 55 #[.slice (some ⟨x1, 0, none⟩) n n] (.tuple #[.int .i64 s, .int .i64 e]) ∧ (.tuple #[.int .i64 s, .int .i64 e] : Value) = .tuple #[.int .i64 s, .int .i64 e])) Try.func35 (by kernel_rfl)
  (⟨(make_int Try.underlying25 info_i64 (by omega) (by unfold maxLen; omega)), fun x1 => ⟨(fun w _ _ => news_nil), (Nat.zero_le _), ⟨rfl, rfl, (turns_sub (sub_one (by rw [opens_zero, hn])))⟩, rfl, fun y2 I3 τ4 => ⟨fun h5 => have h5 : (y2 : Int) < (n : Int) := (by simpa using h5)
⟨(low_index Try.underlying23 info_cell cell_cells hB hx hn (by omega)), (low_reads cell_cells hB hx (at_getD (by rw [hn]; exact (by omega)))), fun g1 => ⟨(own_index Try.underlying25 info_i64 (row_at (j := 0) rfl) (by omega)), ⟨(step_to (opens_set (by omega)) (store_int (row_at (j := 0) rfl) (by omega) (wf_of (hf _ (by omega))) rfl)), fun x6 => ⟨wrap_is (by omega) (by omega) (by omega), ⟨((y2 + 1) : Nat), (by omega), (by omega), ⟨rfl, rfl, (turns_sub (.cons_cons _ (List.nil_sublist _)))⟩, rfl⟩⟩⟩⟩⟩,
 fun h5 => have h5 : ¬ (y2 : Int) < (n : Int) := (by simpa using h5)
⟨gives_total (j := 0) rfl (by rw [opens_end (by omega)]; simpa using hn) (by rw [opens_end (by omega)]; exact h) hm, rfl⟩⟩⟩⟩)

end Go.Proofs.Ytiljgndgffoloab.limit
end
