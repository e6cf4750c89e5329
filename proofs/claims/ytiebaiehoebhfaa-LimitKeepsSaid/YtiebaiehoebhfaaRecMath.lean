/-
  Plain mathematics of layer 6, over no program: which record is right, its six numbers, the record that numbers tell.
-/
import Derived.Test.YtiebaiehoebhfaaFrameMath
namespace Go.Proofs.Ytiebaiehoebhfaa.rec
open Go.Proofs.Ytiebaiehoebhfaa.frame (inR)
set_option linter.unusedSimpArgs false
set_option linter.unusedVariables false

structure Rc where
  (k o a y d q p l s n : Int) (on : Bool) (z t : Int)
  deriving DecidableEq
structure Ns where
  (b0 b1 b2 b3 b4 b5 : Int)
  deriving DecidableEq
def Rc.fine (r : Rc) : Prop := inR r.k ∧ inR r.o ∧ inR r.a ∧ inR r.y ∧ inR r.d ∧ inR r.q ∧ inR r.p ∧ inR r.l ∧ inR r.s ∧ inR r.n ∧ inR r.z ∧ inR r.t
def Ns.fine (b : Ns) : Prop := inR b.b0 ∧ inR b.b1 ∧ inR b.b2 ∧ inR b.b3 ∧ inR b.b4 ∧ inR b.b5
def nz : Ns := ⟨0, 0, 0, 0, 0, 0⟩
def rz : Rc := ⟨0, 0, 0, 0, 0, 0, 0, 0, 0, 0, false, 0, 0⟩

def nums (r : Rc) : Ns :=
  if r.k = 1 then ⟨r.o, r.a, r.y, r.d, r.q, r.p⟩
  else if r.k = 2 then ⟨r.o, r.q, r.p, 0, 0, 0⟩
  else if r.k = 3 then ⟨r.o, 0, 0, 0, 0, 0⟩
  else if r.k = 4 then ⟨r.a, r.y, r.l, r.s, r.n, 0⟩
  else if r.k = 5 then (if r.on = true then ⟨1, 0, 0, 0, 0, 0⟩ else nz)
  else if r.k = 6 then ⟨r.z, r.t, r.o, r.q, r.p, 0⟩
  else nz
def rd (k : Int) (b : Ns) : Rc :=
  if k = 1 then ⟨k, b.b0, b.b1, b.b2, b.b3, b.b4, b.b5, 0, 0, 0, false, 0, 0⟩
  else if k = 2 then ⟨k, b.b0, 0, 0, 0, b.b1, b.b2, 0, 0, 0, false, 0, 0⟩
  else if k = 3 then ⟨k, b.b0, 0, 0, 0, 0, 0, 0, 0, 0, false, 0, 0⟩
  else if k = 4 then ⟨k, 0, b.b0, b.b1, 0, 0, 0, b.b2, b.b3, b.b4, false, 0, 0⟩
  else if k = 5 then ⟨k, 0, 0, 0, 0, 0, 0, 0, 0, 0, decide (b.b0 = 1), 0, 0⟩
  else if k = 6 then ⟨k, b.b2, 0, 0, 0, b.b3, b.b4, 0, 0, 0, false, b.b0, b.b1⟩
  else ⟨k, 0, 0, 0, 0, 0, 0, 0, 0, 0, false, 0, 0⟩
def mayOrder (o : Int) : Bool := decide (1 ≤ o ∧ o ≤ 1000000000000)
def mayAcc (a : Int) : Bool := decide (0 ≤ a ∧ a < 8)
def mayAsk (q p : Int) : Bool := decide (1 ≤ q ∧ 1 ≤ p)
def mayBound (y l s n : Int) : Bool := if y = -1 then decide (l = 0 ∧ s = 0 ∧ 0 ≤ n) else mayAcc y && decide (0 ≤ l ∧ 0 ≤ s ∧ 0 ≤ n)
def mayTell (t q p : Int) : Bool :=
  if t = 3 then decide (1 ≤ q ∧ p = 0)
  else if t = 5 then mayAsk q p
  else if t = 1 ∨ t = 2 ∨ t = 4 ∨ t = 6 then decide (q = 0 ∧ p = 0)
  else false
def may (r : Rc) : Bool :=
  if r.k = 1 then mayOrder r.o && mayAcc r.a && mayAcc r.y && decide (r.d = 1 ∨ r.d = 2) && mayAsk r.q r.p
  else if r.k = 2 then mayOrder r.o && mayAsk r.q r.p
  else if r.k = 3 then mayOrder r.o
  else if r.k = 4 then mayAcc r.a && mayBound r.y r.l r.s r.n
  else if r.k = 5 then true
  else if r.k = 6 then decide (1 ≤ r.z ∧ r.z ≤ 1000000000) && mayOrder r.o && mayTell r.t r.q r.p
  else false
def right (r : Rc) : Bool := may r && decide (rd r.k (nums r) = r)
def unp (k : Int) (b : Ns) : Rc × Int := if right (rd k b) = true ∧ nums (rd k b) = b then (rd k b, 0) else (rz, 2)

theorem rd_k (k : Int) (b : Ns) : (rd k b).k = k := by
  unfold rd
  repeat' split
  all_goals rfl
theorem right_kind {r : Rc} (h : right r = true) : 1 ≤ r.k ∧ r.k ≤ 6 := by
  unfold right may at h
  rw [Bool.and_eq_true] at h
  have h := h.1
  repeat' split at h
  all_goals first | omega | cases h
theorem right_back {r : Rc} (h : right r = true) : rd r.k (nums r) = r := by
  unfold right at h
  rw [Bool.and_eq_true] at h
  exact of_decide_eq_true h.2
theorem unp_nums {r : Rc} (h : right r = true) : unp r.k (nums r) = (r, 0) := by
  unfold unp
  rw [right_back h, if_pos ⟨h, rfl⟩]
theorem unp_ok {k : Int} {b : Ns} {r : Rc} (h : unp k b = (r, 0)) : right r = true ∧ nums r = b ∧ r.k = k := by
  unfold unp at h
  split at h
  · rename_i hc
    obtain rfl : rd k b = r := by simpa using h
    exact ⟨hc.1, hc.2, rd_k k b⟩
  · simp at h
theorem unp_no {k : Int} {b : Ns} {r : Rc} {e : Int} (h : unp k b = (r, e)) : (e = 0 ∨ e = 2 ∧ r = rz) := by
  unfold unp at h
  split at h
  · simp at h; exact .inl h.2.symm
  · simp at h; exact .inr ⟨h.2.symm, h.1.symm⟩
theorem nums_inj {r s : Rc} (hr : right r = true) (hs : right s = true) (hk : r.k = s.k) : (nums r = nums s) ↔ r = s := by
  constructor
  · intro h
    rw [← right_back hr, ← right_back hs, hk, h]
  · rintro rfl; rfl
theorem in0 : inR 0 := by simp [inR]
theorem in1 : inR 1 := by simp [inR]
theorem rz_fine : rz.fine := by simp [rz, Rc.fine, in0]
theorem nz_fine : nz.fine := by simp [nz, Ns.fine, in0]
theorem nums_fine {r : Rc} (h : r.fine) : (nums r).fine := by
  obtain ⟨h1, h2, h3, h4, h5, h6, h7, h8, h9, h10, h11, h12⟩ := h
  unfold nums
  repeat' split
  all_goals simp only [Ns.fine, nz, in0, in1, *, and_self]
theorem rd_fine {k : Int} {b : Ns} (hk : inR k) (h : b.fine) : (rd k b).fine := by
  obtain ⟨h1, h2, h3, h4, h5, h6⟩ := h
  unfold rd
  repeat' split
  all_goals refine ⟨hk, ?_, ?_, ?_, ?_, ?_, ?_, ?_, ?_, ?_, ?_, ?_⟩ <;> first | assumption | exact in0
theorem unp_fine {k : Int} {b : Ns} (hk : inR k) (h : b.fine) : (unp k b).1.fine := by
  unfold unp
  split
  · exact rd_fine hk h
  · exact rz_fine

def pack (r : Rc) : Ns × Int := if right r = true then (nums r, 0) else (nz, 1)
/-- a record's frame. -/
def fr (r : Rc) (e l : Int) : frame.Fr := ⟨e, l, r.k, (nums r).b0, (nums r).b1, (nums r).b2, (nums r).b3, (nums r).b4, (nums r).b5⟩

def framed (r : Rc) (l e : Int) : frame.Fr × Int := if right r = true then (fr r e l, 0) else (frame.zero, 1)

theorem fields_seq {r : Rc} (h : right r = true) (hk : r.k = 1 ∨ r.k = 2 ∨ r.k = 3) {m : Int} (hm : m ≠ 0) : right { r with z := m } = false := by
  obtain ⟨k, o, a, y, d, q, p, l, s, n, on, z, t⟩ := r
  simp only at hk
  unfold right
  rw [Bool.and_eq_false_iff]
  refine .inr (decide_eq_false ?_)
  rcases hk with rfl | rfl | rfl <;> simp [rd, nums] <;> omega
theorem fields_order {r : Rc} (h : right r = true) (hk : r.k = 4) {m : Int} (hm : m ≠ 0) : right { r with o := m } = false := by
  obtain ⟨k, o, a, y, d, q, p, l, s, n, on, z, t⟩ := r
  simp only at hk
  subst hk
  unfold right
  rw [Bool.and_eq_false_iff]
  refine .inr (decide_eq_false ?_)
  simp [rd, nums]
  omega
theorem fields_qty {r : Rc} (h : right r = true) (hk : r.k = 5) {m : Int} (hm : m ≠ 0) : right { r with q := m } = false := by
  obtain ⟨k, o, a, y, d, q, p, l, s, n, on, z, t⟩ := r
  simp only at hk
  subst hk
  unfold right
  rw [Bool.and_eq_false_iff]
  refine .inr (decide_eq_false ?_)
  simp [rd, nums]
  omega
theorem fields_long {r : Rc} (h : right r = true) (hk : r.k = 6) {m : Int} (hm : m ≠ 0) : right { r with l := m } = false := by
  obtain ⟨k, o, a, y, d, q, p, l, s, n, on, z, t⟩ := r
  simp only at hk
  subst hk
  unfold right
  rw [Bool.and_eq_false_iff]
  refine .inr (decide_eq_false ?_)
  simp [rd, nums]
  omega
theorem fields_ordered {r : Rc} (h : right r = true) : 0 < r.o ↔ ¬ (r.k = 4 ∨ r.k = 5) := by
  have hb := right_back h
  have hk := right_kind h
  unfold right at h
  rw [Bool.and_eq_true] at h
  have h := h.1
  obtain ⟨k, o, a, y, d, q, p, l, s, n, on, z, t⟩ := r
  simp only at hk ⊢
  unfold may at h
  unfold rd nums at hb
  simp only at h hb
  have hc : k = 1 ∨ k = 2 ∨ k = 3 ∨ k = 4 ∨ k = 5 ∨ k = 6 := by omega
  rcases hc with rfl | rfl | rfl | rfl | rfl | rfl <;> simp [mayOrder] at h hb ⊢ <;> omega

/-- the document's own words for which record is right: the same. -/
def want (r : Rc) : Rc :=
  if r.k = 1 then ⟨r.k, r.o, r.a, r.y, r.d, r.q, r.p, 0, 0, 0, false, 0, 0⟩
  else if r.k = 2 then ⟨r.k, r.o, 0, 0, 0, r.q, r.p, 0, 0, 0, false, 0, 0⟩
  else if r.k = 3 then ⟨r.k, r.o, 0, 0, 0, 0, 0, 0, 0, 0, false, 0, 0⟩
  else if r.k = 4 then ⟨r.k, 0, r.a, r.y, 0, 0, 0, r.l, r.s, r.n, false, 0, 0⟩
  else if r.k = 5 then ⟨r.k, 0, 0, 0, 0, 0, 0, 0, 0, 0, r.on, 0, 0⟩
  else if r.k = 6 then ⟨r.k, r.o, 0, 0, 0, if r.t = 3 ∨ r.t = 5 then r.q else 0, if r.t = 5 then r.p else 0, 0, 0, 0, false, r.z, r.t⟩
  else ⟨r.k, 0, 0, 0, 0, 0, 0, 0, 0, 0, false, 0, 0⟩
def okR (r : Rc) : Bool :=
  if r.k = 1 then decide (0 < r.o ∧ r.o ≤ 1000000000000 ∧ 0 ≤ r.a ∧ r.a < 8 ∧ 0 ≤ r.y ∧ r.y < 8 ∧ 1 ≤ r.d ∧ r.d ≤ 2 ∧ 0 < r.q ∧ 0 < r.p)
  else if r.k = 2 then decide (0 < r.o ∧ r.o ≤ 1000000000000 ∧ 0 < r.q ∧ 0 < r.p)
  else if r.k = 3 then decide (0 < r.o ∧ r.o ≤ 1000000000000)
  else if r.k = 4 then decide (0 ≤ r.a ∧ r.a < 8 ∧ -1 ≤ r.y ∧ r.y < 8 ∧ 0 ≤ r.l ∧ 0 ≤ r.s ∧ 0 ≤ r.n ∧ ¬ (r.y = -1 ∧ (r.l ≠ 0 ∨ r.s ≠ 0)))
  else if r.k = 5 then true
  else if r.k = 6 then decide (0 < r.z ∧ r.z ≤ 1000000000 ∧ 1 ≤ r.t ∧ r.t ≤ 6 ∧ 0 < r.o ∧ r.o ≤ 1000000000000 ∧ (r.t = 3 ∨ r.t = 5 → 0 < r.q) ∧ (r.t = 5 → 0 < r.p))
  else false
theorem right_eq (r : Rc) : (okR r && decide (r = want r)) = right r := by
  obtain ⟨k, o, a, y, d, q, p, l, s, n, on, z, t⟩ := r
  unfold right
  rw [Bool.eq_iff_iff]
  simp only [Bool.and_eq_true, decide_eq_true_eq]
  by_cases h1 : k = 1
  · subst h1; cases on <;> simp [okR, want, may, rd, nums, mayOrder, mayAcc, mayAsk] <;> omega
  by_cases h2 : k = 2
  · subst h2; cases on <;> simp [okR, want, may, rd, nums, mayOrder, mayAcc, mayAsk] <;> omega
  by_cases h3 : k = 3
  · subst h3; cases on <;> simp [okR, want, may, rd, nums, mayOrder, mayAcc, mayAsk] <;> omega
  by_cases h4 : k = 4
  · subst h4
    by_cases hy : y = -1
    · subst hy; cases on <;> simp [okR, want, may, rd, nums, mayOrder, mayAcc, mayAsk, mayBound] <;> omega
    · cases on <;> simp [okR, want, may, rd, nums, mayOrder, mayAcc, mayAsk, mayBound, hy] <;> omega
  by_cases h5 : k = 5
  · subst h5
    cases on <;> simp [okR, want, may, rd, nums, nz] <;> omega
  by_cases h6 : k = 6
  · subst h6
    by_cases t3 : t = 3
    · subst t3; cases on <;> simp [okR, want, may, rd, nums, mayOrder, mayTell] <;> omega
    by_cases t5 : t = 5
    · subst t5; cases on <;> simp [okR, want, may, rd, nums, mayOrder, mayTell, mayAsk] <;> omega
    · cases on <;> simp [okR, want, may, rd, nums, mayOrder, mayTell, t3, t5] <;> omega
  · simp [okR, may, h1, h2, h3, h4, h5, h6]

end Go.Proofs.Ytiebaiehoebhfaa.rec
