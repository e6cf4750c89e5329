/-
  BookHm, LowN, LimImplH
-/
import Derived.Test.YtbeimapldejgmaaGreatMB15
import Derived.Test.YtbeimapldejgmaaGreatMB16
import Derived.Test.YtbeimapldejgmaaGreatMB17
import Derived.Test.YtbeimapldejgmaaGreatMB12
import Derived.Test.YtbeimapldejgmaaGreatMB14
import Derived.Test.YtbeimapldejgmaaGreatMB13
set_option linter.unusedVariables false
set_option linter.unusedSimpArgs false
section
namespace Go.Proofs.YtbeimapldejgmaaGreat.book
open Go.RowKit Go.Proofs.YtbeimapldejgmaaGreat
open Go.Proofs.YtbeimapldejgmaaGreat.order (Or Nt open_ worth oz)
open Go.Proofs.YtbeimapldejgmaaGreat.cell (Ce Ex)
open Go.Proofs.YtbeimapldejgmaaGreat.rec (Rc)
def wv (v : Sv) (A : Option Addr) (c : Nat) : Sv := { v with A1 := A, c1 := c }
def pv (v : Sv) (A : Option Addr) (c : Nat) (B : Option Addr) (d : Nat) : Sv := { v with A1 := A, c1 := c, A2 := B, c2 := d }
def wst (s : St) (os : List Or) : St := { s with os := os }
theorem in_with {w : World} {S : Nat → Prop} {v : Sv} {s : St} {A : Option Addr} {c : Nat} {os : List Or} (h : InS w S v s) (hl : Elems rdOrder 12 w S A os) (hc : os.length ≤ c ∧ c ≤ maxLen) : InS w S (wv v A c) (wst s os) :=
 ⟨hl, h.c, h.l, h.k, hc, h.nc, h.nl, h.nk, h.fine⟩
theorem _root_.Go.Proofs.YtbeimapldejgmaaGreat.InS.later {w w' : World} {v : Sv} {s : St} (h : InS w (Lt w.heap.size) v s) (hb : Below w.heap.size w w') : InS w' (Lt w'.heap.size) v s := (h.below hb).all (fun b hb' => Nat.lt_of_lt_of_le hb' hb.size)
theorem put_is (s : St) (os : List Or) : put s os = { s with os := os, cs := CL (wst s os) } := rfl
def okO (s : St) (j : Nat) : Prop := order.right (s.os.getD j oz) = true ∧ ¬ (s.os.getD j oz).h = 3 ∧ (s.os.getD j oz).a < s.a ∧ (s.os.getD j oz).y < s.y ∧ (s.os.getD j oz).i ≤ s.last ∧ (0 < j → (s.os.getD (j - 1) oz).i < (s.os.getD j oz).i)
theorem adj_pair {os : List Or} (h : ∀ j, j < os.length → 0 < j → (os.getD (j - 1) oz).i < (os.getD j oz).i) : os.Pairwise (fun o p => o.i < p.i) := by
 rw [List.pairwise_iff_getElem]
 have key : ∀ d i, (hi : i + d + 1 < os.length) → (os.getD i oz).i < (os.getD (i + d + 1) oz).i := by
  intro d
  induction d with
  | zero => intro i hi; have := h (i + 1) hi (by omega); simpa using this
  | succ d ih =>
   intro i hi
   have h1 := ih i (by omega)
   have h2 := h (i + d + 1 + 1) (by omega) (by omega)
   rw [Nat.add_sub_cancel] at h2
   rw [show i + (d + 1) + 1 = i + d + 1 + 1 by omega]
   omega
 intro i j hi hj hij
 have := key (j - i - 1) i (by omega)
 rw [show i + (j - i - 1) + 1 = j by omega] at this
 simpa [List.getD, List.getElem?_eq_getElem hi, List.getElem?_eq_getElem hj] using this
theorem mem_getD {α : Type} {xs : List α} {x : α} (z : α) (h : x ∈ xs) : ∃ j, j < xs.length ∧ xs.getD j z = x := by
 obtain ⟨j, hj, e⟩ := List.getElem_of_mem h
 exact ⟨j, hj, by simpa [List.getD, List.getElem?_eq_getElem hj] using e⟩
theorem orders_ok {s : St} (h : ∀ j, j < s.os.length → okO s j) (hl : s.os.length ≤ 64) : OrdersOk s.a s.y s.last s.os :=
 ⟨fun o ho => by
  obtain ⟨j, hj, rfl⟩ := mem_getD oz ho
  have := h j hj
  exact ⟨order.right_iff.1 this.1, this.2.1, this.2.2.1, this.2.2.2.1, this.2.2.2.2.1⟩, adj_pair (fun j hj h0 => (h j hj).2.2.2.2.2 h0), hl⟩
theorem order_bad {s : St} {k : Nat} (hk : k < s.os.length) (h : ¬ okO s k) : right s = false := right_no.2 (fun hr => h (by
 have ho := hr.2.2.2.1
 have h1 := ho.1 _ (getD_mem (z := oz) hk)
 refine ⟨order.right_iff.2 h1.1, h1.2.1, h1.2.2.1, h1.2.2.2.1, h1.2.2.2.2, fun h0 => ?_⟩
 have h2 := List.pairwise_iff_getElem.1 ho.2.1 (k - 1) k (by omega) hk (by omega)
 simpa [List.getD, List.getElem?_eq_getElem hk, List.getElem?_eq_getElem (show k - 1 < s.os.length by omega)] using h2))
theorem lim_iff {l : Ex} : limit.right l = true ↔ LimOk l := by unfold limit.right LimOk; rw [decide_eq_true_eq]
theorem lim_bad {s : St} {k : Nat} (hk : k < s.ls.length) (h : limit.right (s.ls.getD k xz) = false) : right s = false := right_no.2 (fun hr => by
 have := lim_iff.2 (hr.2.2.2.2.1 _ (getD_mem (z := xz) hk))
 rw [this] at h; cases h)
theorem cap_bad {s : St} {k : Nat} (hk : k < s.ps.length) (h : s.ps.getD k 0 < 0) : right s = false := right_no.2 (fun hr => by
 have := hr.2.2.2.2.2.1 _ (getD_mem (z := 0) hk)
 omega)
theorem cells_bad {s : St} (h : cellsOk s = false) : right s = false := right_no.2 (fun hr => by
 have h1 := hr.2.2.2.2.2.2.1
 rw [hr.2.2.2.2.2.2.2] at h1
 rw [ok_iff.2 h1] at h; cases h)
theorem cell_bad {s : St} {k : Nat} (hk : k < s.cs.length) (h : ¬ (CL s).getD k cz = s.cs.getD k cz) : right s = false := right_no.2 (fun hr => h (by
 have := hr.2.2.2.2.2.2.2
 show (cellsOf s.y s.os (s.cs.map Ce.p)).getD k cz = _
 rw [← this]))
theorem in_range {s : St} (h1 : 1 ≤ s.a ∧ s.a ≤ 8 ∧ 1 ≤ s.y ∧ s.y ≤ 8) (h2 : (s.cs.length : Int) = s.a * s.y) (h : ∀ j, j < s.os.length → okO s j) : InRange s :=
 ⟨h1, h2, fun o ho => by
  obtain ⟨j, hj, rfl⟩ := mem_getD oz ho
  have := h j hj
  exact ⟨order.right_iff.1 this.1, this.2.2.1, this.2.2.2.1⟩⟩
theorem right_good {s : St} (h1 : 1 ≤ s.a ∧ s.a ≤ 8 ∧ 1 ≤ s.y ∧ s.y ≤ 8) (h2 : (s.cs.length : Int) = s.a * s.y ∧ (s.ls.length : Int) = s.a * s.y ∧ (s.ps.length : Int) = s.a)
  (h3 : 0 ≤ s.last ∧ s.last ≤ 1000000000000 ∧ 0 ≤ s.seq) (h3b : s.seq ≤ 1000000000 ∧ 0 ≤ s.lsn ∧ s.lsn ≤ 1000000000) (h4 : s.os.length ≤ 64) (ho : ∀ j, j < s.os.length → okO s j) (hl : ∀ j, j < s.ls.length → limit.right (s.ls.getD j xz) = true) (hp : ∀ j, j < s.ps.length → 0 ≤ s.ps.getD j 0) (hc : cellsOk s = true) (he : ∀ j, j < s.cs.length → (CL s).getD j cz = s.cs.getD j cz) : right s = true := by
 have e : CL s = s.cs := list_eq (z := cz) (CL_len s) (fun j hj => he j (by rw [CL_len] at hj; exact hj))
 have hf := ok_iff.1 hc
 refine right_iff.2 ⟨h1, h2, ⟨h3.1, h3.2.1, h3.2.2, h3b.1, h3b.2.1, h3b.2.2⟩, orders_ok ho h4, fun l hm => ?_, fun c hm => ?_, ?_, e.symm⟩
 ·obtain ⟨j, hj, rfl⟩ := mem_getD xz hm
  exact lim_iff.1 (hl j hj)
 ·obtain ⟨j, hj, rfl⟩ := mem_getD 0 hm
  exact hp j hj
 ·rw [e] at hf; exact hf
def Lens (s : St) : Prop := (1 ≤ s.a ∧ s.a ≤ 8 ∧ 1 ≤ s.y ∧ s.y ≤ 8) ∧ (s.cs.length : Int) = s.a * s.y ∧ (s.ls.length : Int) = s.a * s.y ∧ (s.ps.length : Int) = s.a
theorem Lens.range {s : St} (h : Lens s) : InRange (wst s []) := ⟨h.1, h.2.1, fun o ho => by simp [wst] at ho⟩
theorem lim_rng {s : St} {a : Int} (hL : Lens s) (ha : 0 ≤ a ∧ a < s.a) : a * s.y = ((a.toNat * s.y.toNat : Nat) : Int) ∧ (a + 1) * s.y = (((a.toNat + 1) * s.y.toNat : Nat) : Int) ∧ a.toNat * s.y.toNat ≤ (a.toNat + 1) * s.y.toNat ∧ (a.toNat + 1) * s.y.toNat - a.toNat * s.y.toNat = s.y.toNat ∧ (a.toNat + 1) * s.y.toNat ≤ s.cs.length ∧ (a.toNat + 1) * s.y.toNat ≤ 64 ∧ s.y.toNat ≤ 8 ∧ 1 ≤ s.a ∧ s.a ≤ 8 := by
 have e : ((a.toNat : Nat) : Int) = a := Int.toNat_of_nonneg ha.1
 obtain ⟨h1, h2, h3, h4, h5, h6⟩ := acc_rng hL.range (j := a.toNat) (by show ((a.toNat : Nat) : Int) < s.a; omega)
 have h7 := hL.1
 simp only [wst] at h1 h2 h3 h4 h5 h6
 rw [e] at h2
 rw [show ((a.toNat + 1 : Nat) : Int) = a + 1 by omega] at h3
 exact ⟨h2, h3, h5, h6, h1, h4, by omega, h7.1, h7.2.1⟩
theorem pl_rng2 {s t : St} {a b : Int} (hL : Lens s) (ht : t.cs.length = s.cs.length) (ha : 0 ≤ a ∧ a < s.a) (hb : 0 ≤ b ∧ b < s.y) : place s.y a b < s.cs.length ∧ place s.y a b < t.cs.length ∧ place s.y a b < s.ls.length ∧ a.toNat < s.ps.length ∧ ((place s.y a b : Nat) : Int) = a * s.y + b ∧ 0 ≤ a * s.y ∧ a * s.y ≤ 64 ∧ b ≤ 8 := by
 obtain ⟨h1, h2, h3, h4⟩ := hL
 have h5 := mul_le (a := a) (y := s.y) (A := s.a - 1) (Y := s.y) (by omega) (by omega) (by omega) (by omega)
 have h6 : (s.a - 1) * s.y = s.a * s.y - s.y := by rw [Int.sub_mul, Int.one_mul]
 have h7 := mul_le (a := a) (y := s.y) (A := 8) (Y := 8) (by omega) (by omega) (by omega) (by omega)
 have e : ((place s.y a b : Nat) : Int) = a * s.y + b := by unfold place; exact Int.toNat_of_nonneg (by omega)
 refine ⟨by omega, by omega, by omega, by omega, e, by omega, by omega, by omega⟩
def fk (os : List Or) (id : Int) : Nat := (findI os id).toNat
theorem find_lt {os : List Or} {id : Int} (h : ¬ findI os id < 0) : findI os id = ((fk os id : Nat) : Int) ∧ fk os id < os.length ∧ find os id = some (fk os id) := by
 unfold fk
 unfold findI at *
 cases hf : find os id with
 | none => rw [hf] at h; simp at h
 | some k =>
  have := List.findIdx?_eq_some_iff_getElem.1 hf
  simp only [Int.toNat_natCast]
  exact ⟨trivial, this.1, trivial⟩
theorem find_none {os : List Or} {id : Int} (h : findI os id < 0) : find os id = none := by
 unfold findI at h
 cases hf : find os id with
 | none => rfl
 | some k => rw [hf] at h; simp at h; omega
theorem Lens.of {s : St} (h : Rightly s) : Lens s := ⟨h.1, h.2.1.1, h.2.1.2.1, h.2.1.2.2⟩
theorem range_of {s : St} (h : Rightly s) : InRange s := ⟨h.1, h.2.1.1, fun o ho => ⟨(h.2.2.2.1.1 o ho).1, (h.2.2.2.1.1 o ho).2.2.1, (h.2.2.2.1.1 o ho).2.2.2.1⟩⟩
theorem range_snoc {s : St} {o : Or} (h : Rightly s) (ho : order.Rightly o) (ha : o.a < s.a) (hy : o.y < s.y) : InRange (wst s (s.os ++ [o])) :=
 ⟨h.1, h.2.1.1, fun p hp => by
  rcases List.mem_append.1 hp with hp | hp
  ·exact (range_of h).2.2 p hp
  ·rw [List.mem_singleton.1 hp]; exact ⟨ho, ha, hy⟩⟩
theorem range_set {s : St} {k : Nat} {o : Or} (h : Rightly s) (ho : order.Rightly o) (ha : o.a < s.a) (hy : o.y < s.y) : InRange (wst s (s.os.set k o)) :=
 ⟨h.1, h.2.1.1, fun p hp => by
  rcases List.mem_or_eq_of_mem_set hp with hp | rfl
  ·exact (range_of h).2.2 p hp
  ·exact ⟨ho, ha, hy⟩⟩
theorem change_is {o : Or} {x z : Int} (h : (order.change o x z).2 = 0) : order.Rightly (order.change o x z).1 ∧ (order.change o x z).1.a = o.a ∧ (order.change o x z).1.y = o.y := by
 have hc : order.change o x z = ((order.change o x z).1, 0) := by rw [← h]
 have h1 := order.change_right hc
 have h2 := (order.change_ok hc).2.2.2.2.2.2.2.2
 refine ⟨h1, ?_, ?_⟩
 ·rw [h2]
 ·rw [h2]
theorem begin_is {r : Rc} (hk : r.k = 1) (hr : rec.right r = true) : order.Rightly (order.begin_ r).1 ∧ (order.begin_ r).1.a = r.a ∧ (order.begin_ r).1.y = r.y := by
 have hb : order.begin_ r = (⟨r.o, r.a, r.y, r.d, r.q, r.p, 0, 1, 0, 0, 0, false⟩, 0) := by unfold order.begin_; rw [if_pos ⟨hk, hr⟩]
 have := (order.begin_right hb).2.2.1
 rw [hb]; exact ⟨this, rfl, rfl⟩
section
variable {s : St} {r : Rc} {L : List Or} {a y la : Int}
theorem ask_over (h : cellsOk (wst s L) = false) : ask s L a y la = (s, 3) := by
 unfold ask; rw [if_neg (fun hf => by have := (ok_iff (s := wst s L)).2 hf; rw [h] at this; cases this)]
theorem ask_lim (h : cellsOk (wst s L) = true) (h2 : stands s (put s L) a y = true) : ask s L a y la = (s, 4) := by
 unfold ask; rw [if_pos (show Fits s.a s.y L (put s L).cs from ok_iff.1 h), if_pos h2]
theorem ask_done (h : cellsOk (wst s L) = true) (h2 : stands s (put s L) a y = false) : ask s L a y la = ({ put s L with last := la }, 0) := by
 unfold ask; rw [if_pos (show Fits s.a s.y L (put s L).cs from ok_iff.1 h), if_neg (by rw [h2]; decide)]
theorem doing_kill1 (hk : r.k = 1) (h : s.k = true) : doing s r = (s, 5) := by unfold doing; rw [if_pos hk, if_pos h]
theorem doing_full (hk : r.k = 1) (h : s.k = false) (h2 : 64 ≤ s.os.length) : doing s r = (s, 6) := by unfold doing; rw [if_pos hk, if_neg (by rw [h]; decide), if_pos h2]
theorem doing_new (hk : r.k = 1) (h : s.k = false) (h2 : ¬ 64 ≤ s.os.length) : doing s r = ask s (s.os ++ [(order.begin_ r).1]) r.a r.y r.o := by unfold doing; rw [if_pos hk, if_neg (by rw [h]; decide), if_neg h2]
theorem doing_none (hk : r.k = 2) (hf : findI s.os r.o < 0) : doing s r = (s, 7) := by unfold doing; rw [if_neg (by omega), if_pos hk, find_none hf]
theorem doing_not (hk : r.k = 2) (hf : ¬ findI s.os r.o < 0) (h : ¬ (order.change (s.os.getD (fk s.os r.o) oz) r.q r.p).2 = 0) : doing s r = (s, 8) := by
 unfold doing; rw [if_neg (by omega), if_pos hk, (find_lt hf).2.2]; simp only; rw [if_pos h]
theorem doing_kill2 (hk : r.k = 2) (hf : ¬ findI s.os r.o < 0) (h : (order.change (s.os.getD (fk s.os r.o) oz) r.q r.p).2 = 0) (h2 : s.k = true) : doing s r = (s, 5) := by
 unfold doing; rw [if_neg (by omega), if_pos hk, (find_lt hf).2.2]; simp only; rw [if_neg (by omega), if_pos h2]
theorem doing_rep (hk : r.k = 2) (hf : ¬ findI s.os r.o < 0) (h : (order.change (s.os.getD (fk s.os r.o) oz) r.q r.p).2 = 0) (h2 : s.k = false) :
  doing s r = ask s (s.os.set (fk s.os r.o) (order.change (s.os.getD (fk s.os r.o) oz) r.q r.p).1) (s.os.getD (fk s.os r.o) oz).a (s.os.getD (fk s.os r.o) oz).y s.last := by
 unfold doing; rw [if_neg (by omega), if_pos hk, (find_lt hf).2.2]; simp only; rw [if_neg (by omega), if_neg (by rw [h2]; decide)]
end
def Sn (S : Nat → Prop) (w w' : World) : Nat → Prop := fun k => S k ∨ (w.heap.size ≤ k ∧ k < w'.heap.size)
theorem low_in {w w' : World} {S : Nat → Prop} {v : Sv} {s : St} (h : InS w S v s) (hS : ∀ k, S k → k < w.heap.size) (hb : Below w.heap.size w w') : InS w' (Sn S w w') v s :=
 h.keep (fun b o hk => hb.cell (p := ⟨b, o, none⟩) (hS b hk)) (fun _ h => .inl h)
theorem q_same {w : World} {D : List Fact} {S : Nat → Prop} {v : Sv} {s t : St} {e c : Int} (h : InS w S v s) (hS : ∀ k, S k → k < w.heap.size) (hd : (s, e) = (t, c)) :
  ∃ x : Sv, (.tuple #[.agg (stc v s), .int .i64 e] : Value) = .tuple #[.agg (stc x t), .int .i64 c] ∧ Concl w D (fun w' => InS w' (Sn S w w') x t) := by
 simp only [Prod.mk.injEq] at hd
 obtain ⟨rfl, rfl⟩ := hd
 exact ⟨v, rfl, fun w' hb _ _ => low_in h hS hb⟩
theorem own_or {w w' : World} {D : List Fact} {S : Nat → Prop} {A : Option Addr} {n c : Nat} {L : List Or} {i : Nat} (hi : D[i]? = some (ownF rdOrder 12 56 A n c L)) (ha : All D w') (hy : ∀ f ∈ D, ∀ k, f.S k → w.heap.size ≤ k ∧ k < w'.heap.size) : Elems rdOrder 12 w' (Sn S w w') A L ∧ n ≤ c ∧ c ≤ maxLen :=
 ⟨own_new keeps_order (by decide) (row_at hi w' ha) (fun k hk => .inr (hy _ (List.mem_of_getElem? hi) k hk)) (fun h => h), (row_at hi w' ha).cap⟩
theorem own_ce {w w' : World} {D : List Fact} {S : Nat → Prop} {A : Option Addr} {n c : Nat} {L : List Ce} {i : Nat} (hi : D[i]? = some (ownF rdCell 4 51 A n c L)) (ha : All D w') (hy : ∀ f ∈ D, ∀ k, f.S k → w.heap.size ≤ k ∧ k < w'.heap.size) : Elems rdCell 4 w' (Sn S w w') A L ∧ n ≤ c ∧ c ≤ maxLen :=
 ⟨own_new keeps_cell (by decide) (row_at hi w' ha) (fun k hk => .inr (hy _ (List.mem_of_getElem? hi) k hk)) (fun h => h), (row_at hi w' ha).cap⟩
theorem q_put {w : World} {D : List Fact} {S : Nat → Prop} {v : Sv} {s : St} {t : St × Int} {L : List Or} {la : Int} {A B : Option Addr} {c d i j : Nat} (h : InS w S v s) (hS : ∀ k, S k → k < w.heap.size) (hl : frame.inR la) (hd : t = ({ put s L with last := la }, 0))
  (ho : D[i]? = some (ownF rdOrder 12 56 A L.length c L)) (hc : D[j]? = some (ownF rdCell 4 51 B (CL (wst s L)).length d (CL (wst s L)))) :
  ∃ x : Sv, (.tuple #[.agg #[.int .i64 s.a, .int .i64 s.y, .slice A L.length c, .slice B (CL (wst s L)).length d, .slice v.A3 s.ls.length v.c3, .slice v.A4 s.ps.length v.c4, .bool s.k, .int .i64 la, .int .i64 s.seq, .int .i64 s.lsn], .int .i64 0] : Value) = .tuple #[.agg (stc x t.1), .int .i64 t.2] ∧ Concl w D (fun w' => InS w' (Sn S w w') x t.1) := by
 subst hd
 refine ⟨pv v A c B d, rfl, fun w' hb ha hy => ?_⟩
 obtain ⟨h1, h2⟩ := own_or (S := S) ho ha hy
 obtain ⟨h3, h4⟩ := own_ce (S := S) hc ha hy
 have h5 := low_in h hS hb
 exact ⟨h1, h3, h5.l, h5.k, h2, h4, h.nl, h.nk, ⟨h.fine.1, h.fine.2.1, hl, h.fine.2.2.2.1, h.fine.2.2.2.2⟩⟩
def ntc (n : Nt) : Array Value := #[.int .i64 n.z, .int .i64 n.t, .int .i64 n.o, .int .i64 n.q, .int .i64 n.p]
theorem rec_note {r : Rc} (hr : rec.right r = true) (k6 : r.k = 6) : order.noteOk (nt r) = true := by
 unfold rec.right rec.may at hr
 rw [Bool.and_eq_true] at hr
 have h2 := hr.1
 simp only [k6, show ¬ (6 : Int) = 1 by decide, show ¬ (6 : Int) = 2 by decide, show ¬ (6 : Int) = 3 by decide, show ¬ (6 : Int) = 4 by decide, show ¬ (6 : Int) = 5 by decide, if_false, if_true, Bool.and_eq_true, decide_eq_true_eq, rec.mayOrder] at h2
 exact order.noteOk_iff.2 ⟨h2.1.1, h2.1.2, h2.2⟩
theorem note_rng {r : Rc} (hr : rec.right r = true) (k6 : r.k = 6) : 1 ≤ r.z ∧ r.z ≤ 1000000000 := (order.noteOk_iff.1 (rec_note hr k6)).1
def eo (s : St) (r : Rc) : Or := s.os.getD (fk s.os r.o) oz
def ep (s : St) (r : Rc) : Or := (order.take (eo s r) (nt r)).1
def LP (s : St) (r : Rc) (i : Nat) : List Or := left_ (s.os.take i) (fk s.os r.o) (ep s r)
theorem LP_zero (s : St) (r : Rc) : LP s r 0 = [] := by unfold LP left_; split <;> simp
theorem LP_len (s : St) (r : Rc) (i : Nat) : (LP s r i).length ≤ s.os.length := by
 unfold LP left_
 have h1 : (s.os.take i).length ≤ s.os.length := by rw [List.length_take]; omega
 split
 ·have := List.length_eraseIdx_le (s.os.take i) (fk s.os r.o); omega
 ·rw [List.length_set]; exact h1
theorem LP_end {s : St} {r : Rc} {i : Nat} (h : s.os.length ≤ i) : LP s r i = left_ s.os (fk s.os r.o) (ep s r) := by unfold LP; rw [List.take_of_length_le h]
theorem LP_other {s : St} {r : Rc} {i : Nat} (hi : i < s.os.length) (h : ¬ (i : Int) = ((fk s.os r.o : Nat) : Int)) : LP s r i ++ [s.os.getD i oz] = LP s r (i + 1) := by
 have hne : i ≠ fk s.os r.o := by omega
 have hl : (s.os.take i).length = i := by rw [List.length_take]; omega
 unfold LP left_
 rw [List.take_add_one, at_getD (z := oz) hi]
 simp only [Option.toList_some]
 split
 ·rcases Nat.lt_or_ge (fk s.os r.o) i with h1 | h1
  ·rw [List.eraseIdx_append_of_lt_length (by omega)]
  ·rw [List.eraseIdx_of_length_le (by omega), List.eraseIdx_of_length_le (by simp; omega)]
 ·rcases Nat.lt_or_ge (fk s.os r.o) i with h1 | h1
  ·rw [List.set_append_left _ _ (by omega)]
  ·rw [List.set_eq_of_length_le (by omega), List.set_eq_of_length_le (by simp; omega)]
theorem LP_own {s : St} {r : Rc} {i : Nat} (hi : i < s.os.length) (h : (i : Int) = ((fk s.os r.o : Nat) : Int)) (hp : ¬ (ep s r).h = 3) : LP s r i ++ [ep s r] = LP s r (i + 1) := by
 have he : i = fk s.os r.o := by omega
 have hl : (s.os.take i).length = i := by rw [List.length_take]; omega
 unfold LP left_
 rw [if_neg hp, if_neg hp, List.take_add_one, at_getD (z := oz) hi, ← he, List.set_eq_of_length_le (by omega)]
 simp only [Option.toList_some]
 rw [List.set_append_right _ _ (by omega), hl, Nat.sub_self]
 rfl
theorem LP_gone {s : St} {r : Rc} {i : Nat} (hi : i < s.os.length) (h : (i : Int) = ((fk s.os r.o : Nat) : Int)) (hp : (ep s r).h = 3) : LP s r i = LP s r (i + 1) := by
 have he : i = fk s.os r.o := by omega
 have hl : (s.os.take i).length = i := by rw [List.length_take]; omega
 unfold LP left_
 rw [if_pos hp, if_pos hp, List.take_add_one, at_getD (z := oz) hi, ← he, List.eraseIdx_of_length_le (by omega)]
 simp only [Option.toList_some]
 rw [List.eraseIdx_append_of_length_le (by omega), hl, Nat.sub_self]
 simp
section
variable {s : St} {r : Rc}
theorem ev_gap (h : ¬ r.z - 1 = s.seq) : event s r = (s, 11) := by unfold event; rw [if_pos h]
theorem ev_none (h : r.z - 1 = s.seq) (hf : findI s.os r.o < 0) : event s r = ({ s with seq := r.z }, 0) := by
 unfold event; rw [if_neg (by omega), find_none hf]
theorem ev_not (h : r.z - 1 = s.seq) (hf : ¬ findI s.os r.o < 0) (h2 : ¬ (order.take (eo s r) (nt r)).2 = 0) : event s r = ({ s with seq := r.z }, 0) := by
 unfold event; rw [if_neg (by omega), (find_lt hf).2.2]; simp only; exact if_pos h2
def ev_st (s : St) (r : Rc) : St := { s with seq := r.z, os := left_ s.os (fk s.os r.o) (ep s r), cs := cellsOf s.y (left_ s.os (fk s.os r.o) (ep s r)) (moved s.y (s.cs.map Ce.p) (eo s r) (nt r)) }
theorem ev_yes (h : r.z - 1 = s.seq) (hf : ¬ findI s.os r.o < 0) (h2 : (order.take (eo s r) (nt r)).2 = 0) : event s r = (ev_st s r, 0) := by
 unfold event; rw [if_neg (by omega), (find_lt hf).2.2]; simp only; exact if_neg (fun h3 => h3 h2)
theorem eo_at (hf : ¬ findI s.os r.o < 0) : s.os[fk s.os r.o]? = some (eo s r) := at_getD (find_lt hf).2.1
theorem ev_took (h2 : (order.take (eo s r) (nt r)).2 = 0) : order.Rightly (eo s r) ∧ order.Took (eo s r) (nt r) (ep s r) := by
 have := order.take_ok (o := eo s r) (n := nt r) (p := ep s r) (by unfold ep; rw [← h2])
 exact ⟨this.1, this.2.2.2⟩
theorem ep_same (h2 : (order.take (eo s r) (nt r)).2 = 0) : (ep s r).a = (eo s r).a ∧ (ep s r).y = (eo s r).y ∧ (ep s r).d = (eo s r).d := by
 have := order.took_same (ev_took h2).1 (ev_took h2).2
 exact ⟨this.2.2.2.1, this.2.2.2.2.1, this.2.2.2.2.2.1⟩
theorem ev_right (hs : Rightly s) (hr : rec.right r = true) (k6 : r.k = 6) (h : r.z - 1 = s.seq) (hf : ¬ findI s.os r.o < 0) (h2 : (order.take (eo s r) (nt r)).2 = 0) : Rightly (ev_st s r) :=
 event_right hs (eo_at hf) (ev_took h2).2 (rec_note hr k6) (show s.seq < r.z by omega)
def evP (s : St) (r : Rc) : St := { s with seq := r.z, cs := s.cs.set (place s.y (eo s r).a (eo s r).y) ⟨(s.cs.getD (place s.y (eo s r).a (eo s r).y) cz).p + shift (eo s r) (nt r), (s.cs.getD (place s.y (eo s r).a (eo s r).y) cz).b, (s.cs.getD (place s.y (eo s r).a (eo s r).y) cz).s, (s.cs.getD (place s.y (eo s r).a (eo s r).y) cz).n⟩ }
theorem eo_in (hs : Rightly s) (hf : ¬ findI s.os r.o < 0) : order.Rightly (eo s r) ∧ (eo s r).a < s.a ∧ (eo s r).y < s.y := or_in (range_of hs) (find_lt hf).2.1
theorem ev_pl (hs : Rightly s) (hf : ¬ findI s.os r.o < 0) : place s.y (eo s r).a (eo s r).y < s.cs.length ∧ ((place s.y (eo s r).a (eo s r).y : Nat) : Int) = (eo s r).a * s.y + (eo s r).y ∧ 0 ≤ (eo s r).a * s.y ∧ (eo s r).a * s.y ≤ 64 ∧ 0 ≤ (eo s r).y ∧ (eo s r).y ≤ 8 := by
 have h := eo_in hs hf
 have h1 := h.1.1
 have := pl_rng2 (Lens.of hs) (t := s) rfl (a := (eo s r).a) (b := (eo s r).y) ⟨by omega, h.2.1⟩ ⟨by omega, h.2.2⟩
 exact ⟨this.1, this.2.2.2.2.1, this.2.2.2.2.2.1, this.2.2.2.2.2.2.1, by omega, this.2.2.2.2.2.2.2⟩
theorem ev_moved (hs : Rightly s) (hf : ¬ findI s.os r.o < 0) : (evP s r).cs.map Ce.p = moved s.y (s.cs.map Ce.p) (eo s r) (nt r) := by
 have hp := ev_pl hs hf
 apply List.ext_getElem?
 intro i
 unfold evP moved
 simp only [List.map_set, List.getElem?_set, List.getElem?_mapIdx, List.getElem?_map, List.length_map]
 by_cases hi : place s.y (eo s r).a (eo s r).y = i
 ·have hpl : pl s.y (eo s r) = (i : Int) := by unfold pl; rw [← hi]; exact hp.2.1.symm
  rw [if_pos hi, if_pos (by omega), ← hi, at_getD (z := cz) hp.1]
  simp [hpl, hi]
 ·have hpl : ¬ pl s.y (eo s r) = (i : Int) := by unfold pl; rw [← hp.2.1]; omega
  rw [if_neg hi]
  cases s.cs[i]? <;> simp [hpl]
theorem ev_put (hs : Rightly s) (hf : ¬ findI s.os r.o < 0) : put (evP s r) (left_ s.os (fk s.os r.o) (ep s r)) = ev_st s r := by
 have := ev_moved (r := r) hs hf
 unfold put ev_st
 rw [this]; rfl
theorem shift_zero (h : ¬ r.t = 3) : shift (eo s r) (nt r) = 0 := by unfold shift nt; simp [h]
theorem evP_zero (h : ¬ r.t = 3) : evP s r = { s with seq := r.z } := by
 unfold evP
 rw [shift_zero h]
 congr 1
 rw [Int.add_zero]
 apply List.ext_getElem?
 intro i
 rw [List.getElem?_set]
 split
 ·rename_i hi
  split
  ·rename_i h2; subst hi; rw [at_getD (z := cz) h2]
  ·rename_i h2; rw [List.getElem?_eq_none (by omega)]
 ·rfl
theorem ev_ok (hs : Rightly s) (hr : rec.right r = true) (k6 : r.k = 6) (h : r.z - 1 = s.seq) (hf : ¬ findI s.os r.o < 0) (h2 : (order.take (eo s r) (nt r)).2 = 0) : cellsOk (wst (evP s r) (left_ s.os (fk s.os r.o) (ep s r))) = true := by
 have hR := ev_right hs hr k6 h hf h2
 have h7 := hR.2.2.2.2.2.2.1
 refine ok_iff.2 ?_
 have e : CL (wst (evP s r) (left_ s.os (fk s.os r.o) (ep s r))) = (ev_st s r).cs := by
  show cellsOf s.y (left_ s.os (fk s.os r.o) (ep s r)) ((evP s r).cs.map Ce.p) = _
  rw [ev_moved hs hf]; rfl
 rw [e]; exact h7
theorem ev_range (hs : Rightly s) (hr : rec.right r = true) (k6 : r.k = 6) (h : r.z - 1 = s.seq) (hf : ¬ findI s.os r.o < 0) (h2 : (order.take (eo s r) (nt r)).2 = 0) : InRange (wst (evP s r) (left_ s.os (fk s.os r.o) (ep s r))) := by
 have hR := range_of (ev_right hs hr k6 h hf h2)
 exact ⟨hR.1, by have h9 := hs.2.1.1; show ((evP s r).cs.length : Int) = s.a * s.y; rw [← h9]; simp [evP], hR.2.2⟩
theorem ev_pos (hs : Rightly s) (hr : rec.right r = true) (k6 : r.k = 6) (h : r.z - 1 = s.seq) (hf : ¬ findI s.os r.o < 0) (h2 : (order.take (eo s r) (nt r)).2 = 0) : frame.inR ((s.cs.getD (place s.y (eo s r).a (eo s r).y) cz).p + shift (eo s r) (nt r)) := by
 have hR := ev_right hs hr k6 h hf h2
 have hp := ev_pl (r := r) hs hf
 have h1 : ((s.cs.map Ce.p))[place s.y (eo s r).a (eo s r).y]? = some (s.cs.getD (place s.y (eo s r).a (eo s r).y) cz).p := by rw [List.getElem?_map, at_getD (z := cz) hp.1]; rfl
 have hm : (moved s.y (s.cs.map Ce.p) (eo s r) (nt r))[place s.y (eo s r).a (eo s r).y]? = some ((s.cs.getD (place s.y (eo s r).a (eo s r).y) cz).p + shift (eo s r) (nt r)) := by
  unfold moved
  rw [List.getElem?_mapIdx, h1]
  have hpl : pl s.y (eo s r) = ((place s.y (eo s r).a (eo s r).y : Nat) : Int) := hp.2.1.symm
  simp [hpl]
 have hc := cells_at (y := s.y) (os := left_ s.os (fk s.os r.o) (ep s r)) hm
 exact (hR.2.2.2.2.2.2.1.2.1 _ (List.mem_of_getElem? hc)).1.1
theorem ep_fine (hs : s.os.getD (fk s.os r.o) oz |>.fine) (h2 : (order.take (eo s r) (nt r)).2 = 0) : (ep s r).fine := order.take_fine (e := (order.take (eo s r) (nt r)).2) (o := eo s r) (n := nt r) hs rfl
end
theorem rec_kind {r : Rc} (hr : rec.right r = true) : 1 ≤ r.k ∧ r.k ≤ 6 := by
 unfold rec.right rec.may at hr
 rw [Bool.and_eq_true] at hr
 have h := hr.1
 repeat' split at h
 all_goals first | omega | cases h
theorem rec_bound {r : Rc} (hr : rec.right r = true) (k4 : r.k = 4) : 0 ≤ r.a ∧ (¬ r.y = -1 → 0 ≤ r.y) := by
 unfold rec.right rec.may at hr
 rw [Bool.and_eq_true] at hr
 have h := hr.1
 rw [if_neg (by omega), if_neg (by omega), if_neg (by omega), if_pos k4, Bool.and_eq_true] at h
 have h1 : 0 ≤ r.a := by have := h.1; unfold rec.mayAcc at this; simp at this; omega
 refine ⟨h1, fun hy => ?_⟩
 have h2 := h.2
 unfold rec.mayBound at h2
 rw [if_neg hy, Bool.and_eq_true] at h2
 have := h2.1; unfold rec.mayAcc at this; simp at this; omega
section
variable {s : St} {r : Rc}
theorem do_wrong (h : Wrong s r) : do_ s r = (s, 1) := by unfold do_; rw [if_pos h]
theorem do_no {e : Int} {t : St} (h : ¬ Wrong s r) (hd : doing s r = (t, e)) (he : ¬ e = 0) : do_ s r = (s, e) := by unfold do_; rw [if_neg h, hd]; exact if_pos he
theorem do_yes {t : St} (h : ¬ Wrong s r) (hd : doing s r = (t, 0)) : do_ s r = ({ t with lsn := s.lsn + 1 }, 0) := by unfold do_; rw [if_neg h, hd]; exact if_neg (by simp)
theorem wrong_no (h1 : right s = true) (h2 : rec.right r = true) (h3 : ¬ 1000000000 ≤ s.lsn) (h4 : r.a < s.a) (h5 : r.y < s.y) (h6 : r.k = 1 → s.last < r.o) : ¬ Wrong s r := by
 unfold Wrong
 rw [h1, h2]
 simp only [Bool.true_eq_false, false_or, not_or]
 exact ⟨by omega, by omega, by omega, fun h => by have := h6 h.1; omega⟩
theorem doing_event (h1 : ¬ r.k = 1) (h2 : ¬ r.k = 2) (h3 : ¬ r.k = 3) (h4 : ¬ r.k = 4) (h5 : ¬ r.k = 5) : doing s r = event s r := by unfold doing; rw [if_neg h1, if_neg h2, if_neg h3, if_neg h4, if_neg h5]
theorem doing_switch (h5 : r.k = 5) : doing s r = ({ s with k := r.on }, 0) := by unfold doing; rw [if_neg (by omega), if_neg (by omega), if_neg (by omega), if_neg (by omega), if_pos h5]
theorem doing_cap (h4 : r.k = 4) (hy : r.y = -1) : doing s r = ({ s with ps := s.ps.set r.a.toNat r.n }, 0) := by unfold doing; rw [if_neg (by omega), if_neg (by omega), if_neg (by omega), if_pos h4, if_pos hy]
theorem doing_lim (h4 : r.k = 4) (hy : ¬ r.y = -1) : doing s r = ({ s with ls := s.ls.set (place s.y r.a r.y) ⟨r.l, r.s, r.n⟩ }, 0) := by unfold doing; rw [if_neg (by omega), if_neg (by omega), if_neg (by omega), if_pos h4, if_neg hy]
theorem doing_gone (h3 : r.k = 3) (hf : findI s.os r.o < 0) : doing s r = (s, 7) := by unfold doing; rw [if_neg (by omega), if_neg (by omega), if_pos h3, find_none hf]
theorem doing_stop_no (h3 : r.k = 3) (hf : ¬ findI s.os r.o < 0) (h : ¬ (order.stop (s.os.getD (fk s.os r.o) oz)).2 = 0) : doing s r = (s, 8) := by
 unfold doing; rw [if_neg (by omega), if_neg (by omega), if_pos h3, (find_lt hf).2.2]; simp only; exact if_pos h
theorem doing_stop (h3 : r.k = 3) (hf : ¬ findI s.os r.o < 0) (h : (order.stop (s.os.getD (fk s.os r.o) oz)).2 = 0) : doing s r = ({ s with os := s.os.set (fk s.os r.o) (order.stop (s.os.getD (fk s.os r.o) oz)).1 }, 0) := by
 unfold doing; rw [if_neg (by omega), if_neg (by omega), if_pos h3, (find_lt hf).2.2]; simp only; exact if_neg (fun h9 => h9 h)
end
theorem keeps_in (s : St) : Keeps3 (fun w S v => InS w S v s) := fun w w' S S' v h ha hs => h.keep ha.alike hs
theorem own_ex {w w' : World} {D : List Fact} {S : Nat → Prop} {A : Option Addr} {n c : Nat} {L : List Ex} {i : Nat} (hi : D[i]? = some (ownF rdExpo 3 31 A n c L)) (ha : All D w') (hy : ∀ f ∈ D, ∀ k, f.S k → w.heap.size ≤ k ∧ k < w'.heap.size) : Elems rdExpo 3 w' (Sn S w w') A L ∧ n ≤ c ∧ c ≤ maxLen :=
 ⟨own_new keeps_expo (by decide) (row_at hi w' ha) (fun k hk => .inr (hy _ (List.mem_of_getElem? hi) k hk)) (fun h => h), (row_at hi w' ha).cap⟩
theorem own_in {w w' : World} {D : List Fact} {S : Nat → Prop} {A : Option Addr} {n c : Nat} {L : List Int} {i : Nat} (hi : D[i]? = some (ownF (rdInt .i64) 1 2 A n c L)) (ha : All D w') (hy : ∀ f ∈ D, ∀ k, f.S k → w.heap.size ≤ k ∧ k < w'.heap.size) : Elems (rdInt .i64) 1 w' (Sn S w w') A L ∧ n ≤ c ∧ c ≤ maxLen :=
 ⟨own_new (keeps_int _) (by decide) (row_at hi w' ha) (fun k hk => .inr (hy _ (List.mem_of_getElem? hi) k hk)) (fun h => h), (row_at hi w' ha).cap⟩
theorem in_last {w : World} {S : Nat → Prop} {v : Sv} {s : St} (h : InS w S v s) {l : Int} (hl : frame.inR l) : InS w S v { s with lsn := l } := ⟨h.o, h.c, h.l, h.k, h.no, h.nc, h.nl, h.nk, ⟨h.fine.1, h.fine.2.1, h.fine.2.2.1, h.fine.2.2.2.1, hl⟩⟩
section
variable {w : World} {D : List Fact} {S : Nat → Prop} {v : Sv} {s : St} {t : St × Int}
theorem q_dat {u : St} {l : Int} (x : Dat (fun w S v => InS w S v u) S w) {i : Nat} (hS : ∀ k, S k → k < w.heap.size) (hl : frame.inR l) (hi : D[i]? = some (poolF x.1.1 x.1.2.1)) (hd : t = ({ u with lsn := l }, 0)) :
  ∃ y : Sv, (.tuple #[.agg (stc x.1.2.2 { u with lsn := l }), .int .i64 0] : Value) = .tuple #[.agg (stc y t.1), .int .i64 t.2] ∧ Concl w D (fun w' => InS w' (Sn S w w') y t.1) := by
 subst hd
 refine ⟨x.1.2.2, rfl, fun w' hb ha hy => ?_⟩
 refine in_last ?_ hl
 have hF := pool_at hi ha
 have h1 := x.later (keeps_in u) (w := w') (fun k hk => hb.block k (hS k hk)) hF
 exact (keeps_in u) _ _ _ _ _ h1 (fun _ _ => rfl) (fun k hk => hk.imp id (fun hk => hy _ (List.mem_of_getElem? hi) k hk))
theorem q_or {l : Int} {L : List Or} {A : Option Addr} {c i : Nat} (h : InS w S v s) (hS : ∀ k, S k → k < w.heap.size) (hl : frame.inR l) (hi : D[i]? = some (ownF rdOrder 12 56 A L.length c L)) (hd : t = ({ s with os := L, lsn := l }, 0)) :
  ∃ y : Sv, (.tuple #[.agg (stc { v with A1 := A, c1 := c } { s with os := L, lsn := l }), .int .i64 0] : Value) = .tuple #[.agg (stc y t.1), .int .i64 t.2] ∧ Concl w D (fun w' => InS w' (Sn S w w') y t.1) := by
 subst hd
 refine ⟨_, rfl, fun w' hb ha hy => ?_⟩
 have h5 := low_in h hS hb
 obtain ⟨h1, h2⟩ := own_or (S := S) hi ha hy
 exact ⟨h1, h5.c, h5.l, h5.k, h2, h.nc, h.nl, h.nk, ⟨h.fine.1, h.fine.2.1, h.fine.2.2.1, h.fine.2.2.2.1, hl⟩⟩
theorem q_ex {l : Int} {L : List Ex} {A : Option Addr} {c i : Nat} (h : InS w S v s) (hS : ∀ k, S k → k < w.heap.size) (hl : frame.inR l) (hi : D[i]? = some (ownF rdExpo 3 31 A L.length c L)) (hd : t = ({ s with ls := L, lsn := l }, 0)) :
  ∃ y : Sv, (.tuple #[.agg (stc { v with A3 := A, c3 := c } { s with ls := L, lsn := l }), .int .i64 0] : Value) = .tuple #[.agg (stc y t.1), .int .i64 t.2] ∧ Concl w D (fun w' => InS w' (Sn S w w') y t.1) := by
 subst hd
 refine ⟨_, rfl, fun w' hb ha hy => ?_⟩
 have h5 := low_in h hS hb
 obtain ⟨h1, h2⟩ := own_ex (S := S) hi ha hy
 exact ⟨h5.o, h5.c, h1, h5.k, h.no, h.nc, h2, h.nk, ⟨h.fine.1, h.fine.2.1, h.fine.2.2.1, h.fine.2.2.2.1, hl⟩⟩
theorem q_in {l : Int} {L : List Int} {A : Option Addr} {c i : Nat} (h : InS w S v s) (hS : ∀ k, S k → k < w.heap.size) (hl : frame.inR l) (hi : D[i]? = some (ownF (rdInt .i64) 1 2 A L.length c L)) (hd : t = ({ s with ps := L, lsn := l }, 0)) :
  ∃ y : Sv, (.tuple #[.agg (stc { v with A4 := A, c4 := c } { s with ps := L, lsn := l }), .int .i64 0] : Value) = .tuple #[.agg (stc y t.1), .int .i64 t.2] ∧ Concl w D (fun w' => InS w' (Sn S w w') y t.1) := by
 subst hd
 refine ⟨_, rfl, fun w' hb ha hy => ?_⟩
 have h5 := low_in h hS hb
 obtain ⟨h1, h2⟩ := own_in (S := S) hi ha hy
 exact ⟨h5.o, h5.c, h5.l, h1, h.no, h.nc, h.nl, h2, ⟨h.fine.1, h.fine.2.1, h.fine.2.2.1, h.fine.2.2.2.1, hl⟩⟩
theorem q_k {l : Int} {b : Bool} (h : InS w S v s) (hS : ∀ k, S k → k < w.heap.size) (hl : frame.inR l) (hd : t = ({ s with k := b, lsn := l }, 0)) :
  ∃ y : Sv, (.tuple #[.agg (stc v { s with k := b, lsn := l }), .int .i64 0] : Value) = .tuple #[.agg (stc y t.1), .int .i64 t.2] ∧ Concl w D (fun w' => InS w' (Sn S w w') y t.1) := by
 subst hd
 refine ⟨_, rfl, fun w' hb ha hy => ?_⟩
 have h5 := low_in h hS hb
 exact ⟨h5.o, h5.c, h5.l, h5.k, h.no, h.nc, h.nl, h.nk, ⟨h.fine.1, h.fine.2.1, h.fine.2.2.1, h.fine.2.2.2.1, hl⟩⟩
end
end Go.Proofs.YtbeimapldejgmaaGreat.book
end
section
namespace Go.Proofs.YtbeimapldejgmaaGreat.book
open Go.RowKit Go.Proofs.YtbeimapldejgmaaGreat
variable {w0 : World} {D : List Fact}
def addE (a b : Int) : Int := if inI (a + b) then 0 else 3
def subE (a b : Int) : Int := if inI (a - b) then 0 else 3
def subV (a b : Int) : Int := if inI (a - b) then a - b else 0
def mulE (a b : Int) : Int := if inI (a * b) then 0 else 3
def mulV (a b : Int) : Int := if inI (a * b) then a * b else 0
theorem mulV_in (a b : Int) : inI (mulV a b) := by unfold mulV; split; assumption; unfold inI; omega
theorem subV_in (a b : Int) : inI (subV a b) := by unfold subV; split; assumption; unfold inI; omega
theorem addE_iff {a b : Int} : addE a b = 0 ↔ inI (a + b) := by unfold addE; split <;> simp_all
theorem subE_iff {a b : Int} : subE a b = 0 ↔ inI (a - b) := by unfold subE; split <;> simp_all
theorem mulE_iff {a b : Int} : mulE a b = 0 ↔ inI (a * b) := by unfold mulE; split <;> simp_all
theorem n_add {a b : Int} (ha : inI a) (hb : inI b) : Gives Tryz.prog w0 D 68 #[.int .i64 a, .int .i64 b] (.tuple #[.int .i64 (addV a b), .int .i64 (addE a b)]) := by
 unfold addV addE
 by_cases h : inI (a + b)
 ·rw [if_pos h, if_pos h]; exact gives_same (fun w => num.add_ok a b w ha hb h)
 ·rw [if_neg h, if_neg h]; exact gives_same (fun w => num.add_over a b w ha hb h)
theorem n_sub {a b : Int} (ha : inI a) (hb : inI b) : Gives Tryz.prog w0 D 69 #[.int .i64 a, .int .i64 b] (.tuple #[.int .i64 (subV a b), .int .i64 (subE a b)]) := by
 unfold subV subE
 by_cases h : inI (a - b)
 ·rw [if_pos h, if_pos h]; exact gives_same (fun w => num.sub_ok a b w ha hb h)
 ·rw [if_neg h, if_neg h]; exact gives_same (fun w => num.sub_over a b w ha hb h)
theorem mul_n {a b : Int} (ha : inI a) (hb : inI b) : Gives Tryz.prog w0 D 117 #[.int .i64 a, .int .i64 b] (.tuple #[.int .i64 (mulV a b), .int .i64 (mulE a b)]) := by
 unfold mulV mulE
 by_cases h : inI (a * b)
 ·rw [if_pos h, if_pos h]; exact gives_same (fun w => num.mul_ok a b w ha hb h)
 ·rw [if_neg h, if_neg h]; exact gives_same (fun w => num.mul_over a b w ha hb h)
theorem n_max {a b : Int} (ha : inI a) (hb : inI b) : Gives Tryz.prog w0 D 118 #[.int .i64 a, .int .i64 b] (.int .i64 (max a b)) := gives_same (fun w => num.max_any a b w ha hb)
end Go.Proofs.YtbeimapldejgmaaGreat.book
end
section
namespace Go.Proofs.YtbeimapldejgmaaGreat.limit
open Go.RowKit Go.Proofs.YtbeimapldejgmaaGreat Go.Proofs.YtbeimapldejgmaaGreat.cell Go.Proofs.YtbeimapldejgmaaGreat.num
set_option maxRecDepth 20000
def opens (k : Nat) (xs : List Ce) : List Int := (xs.map Ce.n).take k ++ List.replicate (xs.length - k) 0
theorem opens_zero (xs : List Ce) : opens 0 xs = List.replicate xs.length 0 := rfl
theorem opens_end {xs : List Ce} {k : Nat} (h : xs.length ≤ k) : opens k xs = xs.map Ce.n := by
 unfold opens
 rw [List.take_of_length_le (by simpa using h), Nat.sub_eq_zero_of_le h]
 simp
theorem opens_set {xs : List Ce} {k : Nat} (h : k < xs.length) : (opens k xs).set k ((xs.getD k cell.cz).n) = opens (k + 1) xs := by
 unfold opens
 have e : xs.length - k = (xs.length - (k + 1)) + 1 := by omega
 have hl : ((xs.map Ce.n).take k).length = k := by simp; omega
 rw [List.set_append, if_neg (by omega), hl, Nat.sub_self, e, List.replicate_succ, List.set_cons_zero]
 rw [List.take_add_one, List.getElem?_map, at_getD (z := cell.cz) h]
 simp
theorem wf_of {k : Int} (h : inI k) : (Lit.int .i64 k).wf = true := by
 simpa [Lit.wf, IntKind.min, IntKind.max, IntKind.signed, IntKind.bits, inI] using h
theorem gives_total {w0 : World} {D : List Fact} {j : Nat} {A : Option Addr} {n c : Nat} {ys : List Int} {s e : Int} (h : D[j]? = some (ownF (rdInt .i64) 1 2 A n c ys)) (hy : ys.length = n) (hw : (num.totV (num.tot 0 ys), num.totE (num.tot 0 ys)) = (s, e)) (hm : n ≤ 100) : Gives Tryz.prog w0 D 70 #[.slice A n c] (.tuple #[.int .i64 s, .int .i64 e]) := by
 intro w _ ha
 have hi := (ints_own (row_at h w ha)).ints
 simp only [Prod.mk.injEq] at hw
 rw [← hw.1, ← hw.2]
 exact (num.total_any A n c _ ys w hi hy (by omega)).mono (by rintro e w' ⟨rfl, rfl⟩; exact ⟨rfl, Below.refl _ _⟩)
theorem whole_is (A : Option Addr) (n c B : Nat) (xs : List Ce) {s e : Int} (w : World) (hx : Cls w B A xs) (hB : B ≤ w.heap.size) (hn : xs.length = n) (hm : n ≤ 100) (h : whole xs = (s, e))  : Calls Tryz.prog 41 #[.slice A n c] w fun e' w' => e' = .returned (.tuple #[.int .i64 s, .int .i64 e]) ∧ Below w.heap.size w w' :=
 have hf : ∀ k, k < n → inI (xs.getD k cell.cz).n := fun k hk => (hx.fine _ (List.mem_of_getElem? (at_getD (by omega)))).2.2.2
 calls_by (fn := Tryz.f41) (r := .tuple #[.int .i64 s, .int .i64 e]) (t := .w (Nat) none (fun x => .slice (some ⟨x, 0, none⟩) n n) (fun x => [oI (some ⟨x, 0, none⟩) n n (List.replicate n 0)]) (fun x1 => let k0 : Option Addr := some ⟨x1, 0, none⟩; .l (Nat) (fun x => [(4, .slice k0 n n, none), (10, .slice A n c, none), (11, .int .i64 (n : Int), none), (12, .int .i64 (x : Int), none)]) (fun x => []) [] [] (fun x => [oI k0 n n (opens x xs)]) (fun x => x ≤ n) (fun x => n - x) (0 : Nat) (fun y2 => .s (.p (blkA A) (offA A + y2 * 4) (cell.cc (xs.getD y2 cell.cz)) (.x (.pointer (some ⟨blkA k0, offA k0 + y2 * 1, none⟩)) (.w (Unit) (some 0) (fun x => undef) (fun x => [oI k0 n n (opens (y2 + 1) xs)]) (fun x6 => .e (.int .i64 ((y2 + 1 : Nat) : Int)) .z)))) (.c (.tuple #[.int .i64 s, .int .i64 e]) .z)))) (X :=
 let k0 := List.replicate n 0; let k1 : Array Value := #[.int .i64 s, .int .i64 e]; let k2 := ([] : List (Option Blk)); StepM Tryz.prog w [] (Instr.makeSlice 25 (.int .i64 (n : Int)) (.int .i64 (n : Int))) (fun _ => False) (Nat) (fun x => .slice (some ⟨x, 0, none⟩) n n) (fun x => [oI (some ⟨x, 0, none⟩) n n k0]) ∧ ∀ x1 : Nat, let k3 : Option Addr := some ⟨x1, 0, none⟩; Brings w [oI k3 n n k0] [] ∧ ((0 : Nat) ≤ n) ∧ (([.slice k3 n n, .slice A n c, .int .i64 (n : Int), .int .i64 0] : List Value) = [.slice k3 n n, .slice A n c, .int .i64 (n : Int), .int .i64 ((0 : Nat) : Int)] ∧ k2 = [] ∧ Turns w [oI k3 n n k0] [oI k3 n n (opens (0 : Nat) xs)]) ∧ true = true ∧ ∀ (y2 : Nat), let k4 : Value := .pointer (some ⟨blkA k3, offA k3 + y2 * 1, none⟩); let k5 := decide ((y2 : Int) < (n : Int)); (y2 ≤ n) → ∀ τ4 : Nat → Value, (k5 = true → Yields0 Tryz.prog w [oI k3 n n (opens y2 xs)] (Instr.indexAt 23 (.slice A n c) (.int .i64 (y2 : Int))) (.pointer (some ⟨blkA A, offA A + y2 * 4, none⟩)) ∧ Reads0 w [] (blkA A) (offA A + y2 * 4) (cell.cc (xs.getD y2 cell.cz)) ∧ ∀ g1 : Nat, Yields0 Tryz.prog w [oI k3 n n (opens y2 xs)] (Instr.indexAt 25 (.slice k3 n n) (.int .i64 (y2 : Int))) k4 ∧ StepU Tryz.prog w [oI k3 n n (opens y2 xs)] (Instr.storeAt 2 k4 (.int .i64 ((xs.getD y2 cell.cz).n))) ((oI k3 n n (opens y2 xs)).S) (Unit) (fun x => undef) (fun x => [oI k3 n n (opens (y2 + 1) xs)]) ∧ ∀ x6 : Unit, (.int .i64 (IntKind.i64.wrap ((y2 : Int) + 1)) : Value) = .int .i64 ((y2 + 1 : Nat) : Int) ∧ ∃ x' : Nat, (x' ≤ n) ∧ (n - x' < n - y2) ∧ (([.slice k3 n n, .slice A n c, .int .i64 (n : Int), .int .i64 ((y2 + 1 : Nat) : Int)] : List Value) = [.slice k3 n n, .slice A n c, .int .i64 (n : Int), .int .i64 (x' : Int)] ∧ k2 = [] ∧ Turns w [oI k3 n n (opens (y2 + 1) xs)] [oI k3 n n (opens x' xs)]) ∧ true = true) ∧ (k5 = false → Gives Tryz.prog w [oI k3 n n (opens y2 xs)] 70 #[.slice k3 n n] (.tuple k1) ∧ (.tuple k1 : Value) = .tuple k1)) Tryz.func41 (by kernel_rfl)
 (⟨(make_int Tryz.underlying25 info_i64 (by omega) (by unfold maxLen; omega)), fun x1 => ⟨(fun w _ _ => news_nil), (Nat.zero_le _), ⟨rfl, rfl, (turns_sub (sub_one (by rw [opens_zero, hn])))⟩, rfl, fun y2 I3 τ4 => ⟨fun h5 => have h5 : (y2 : Int) < (n : Int) := (by simpa using h5)
⟨(low_index Tryz.underlying23 info_cell cell_cells hB hx hn (by omega)), (low_reads cell_cells hB hx (at_getD (by rw [hn]; exact (by omega)))), fun g1 => ⟨(own_index Tryz.underlying25 info_i64 (row_at (j := 0) rfl) (by omega)), ⟨(step_to (opens_set (by omega)) (store_int (row_at (j := 0) rfl) (by omega) (wf_of (hf _ (by omega))) rfl)), fun x6 => ⟨wrap_is (by omega) (by omega) (by omega), ⟨((y2 + 1) : Nat), (by omega), (by omega), ⟨rfl, rfl, (turns_sub (.cons_cons _ (List.nil_sublist _)))⟩, rfl⟩⟩⟩⟩⟩,
 fun h5 => have h5 : ¬ (y2 : Int) < (n : Int) := (by simpa using h5)
⟨gives_total (j := 0) rfl (by rw [opens_end (by omega)]; simpa using hn) (by rw [opens_end (by omega)]; exact h) hm, rfl⟩⟩⟩⟩)
end Go.Proofs.YtbeimapldejgmaaGreat.limit
end
