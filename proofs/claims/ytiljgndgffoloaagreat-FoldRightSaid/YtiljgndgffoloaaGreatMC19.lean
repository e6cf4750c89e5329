/-
  LowN, LimImplH
-/
import Derived.Test.YtiljgndgffoloaaGreatMC16
import Derived.Test.YtiljgndgffoloaaGreatMC15
import Derived.Test.YtiljgndgffoloaaGreatMC17
import Derived.Test.YtiljgndgffoloaaGreatMC12
import Derived.Test.YtiljgndgffoloaaGreatMC14
import Derived.Test.YtiljgndgffoloaaGreatMC13
section
namespace Go.Proofs.YtiljgndgffoloaaGreat.book
open Go.RowKit Go.Proofs.YtiljgndgffoloaaGreat
set_option linter.unusedVariables false
set_option linter.unusedSimpArgs false
variable {w0 : World} {D : List Fact}
def addE (a b : Int) : Int := if inI (a + b) then 0 else 3
def subE (a b : Int) : Int := if inI (a - b) then 0 else 3
def subV (a b : Int) : Int := if inI (a - b) then a - b else 0
def mulE (a b : Int) : Int := if inI (a * b) then 0 else 3
def mulV (a b : Int) : Int := if inI (a * b) then a * b else 0
theorem mulV_in (a b : Int) : inI (mulV a b) := by unfold mulV; split; assumption; unfold inI; omega
theorem subV_in (a b : Int) : inI (subV a b) := by unfold subV; split; assumption; unfold inI; omega
theorem addE_iff {a b : Int} : addE a b = 0 ↔ inI (a + b) := by unfold addE; split <;> simp_all
theorem subE_iff {a b : Int} : subE a b = 0 ↔ inI (a - b) := by unfold subE; split <;> simp_all
theorem mulE_iff {a b : Int} : mulE a b = 0 ↔ inI (a * b) := by unfold mulE; split <;> simp_all
theorem n_add {a b : Int} (ha : inI a) (hb : inI b) : Gives Tryz.prog w0 D 80 #[.int .i64 a, .int .i64 b] (.tuple #[.int .i64 (addV a b), .int .i64 (addE a b)]) := by
  unfold addV addE
  by_cases h : inI (a + b)
  · rw [if_pos h, if_pos h]; exact gives_same (fun w => num.add_ok a b w ha hb h)
  · rw [if_neg h, if_neg h]; exact gives_same (fun w => num.add_over a b w ha hb h)
theorem n_sub {a b : Int} (ha : inI a) (hb : inI b) : Gives Tryz.prog w0 D 81 #[.int .i64 a, .int .i64 b] (.tuple #[.int .i64 (subV a b), .int .i64 (subE a b)]) := by
  unfold subV subE
  by_cases h : inI (a - b)
  · rw [if_pos h, if_pos h]; exact gives_same (fun w => num.sub_ok a b w ha hb h)
  · rw [if_neg h, if_neg h]; exact gives_same (fun w => num.sub_over a b w ha hb h)
theorem mul_n {a b : Int} (ha : inI a) (hb : inI b) : Gives Tryz.prog w0 D 128 #[.int .i64 a, .int .i64 b] (.tuple #[.int .i64 (mulV a b), .int .i64 (mulE a b)]) := by
  unfold mulV mulE
  by_cases h : inI (a * b)
  · rw [if_pos h, if_pos h]; exact gives_same (fun w => num.mul_ok a b w ha hb h)
  · rw [if_neg h, if_neg h]; exact gives_same (fun w => num.mul_over a b w ha hb h)
theorem n_max {a b : Int} (ha : inI a) (hb : inI b) : Gives Tryz.prog w0 D 129 #[.int .i64 a, .int .i64 b] (.int .i64 (max a b)) := gives_same (fun w => num.max_any a b w ha hb)
end Go.Proofs.YtiljgndgffoloaaGreat.book
end
section
namespace Go.Proofs.YtiljgndgffoloaaGreat.limit
open Go.RowKit Go.Proofs.YtiljgndgffoloaaGreat Go.Proofs.YtiljgndgffoloaaGreat.cell Go.Proofs.YtiljgndgffoloaaGreat.num
set_option linter.unusedVariables false
set_option linter.unusedSimpArgs false
set_option maxRecDepth 20000

/-- what the first k have open, and 0 for the others. -/
def opens (k : Nat) (xs : List Ce) : List Int := (xs.map Ce.n).take k ++ List.replicate (xs.length - k) 0
theorem opens_zero (xs : List Ce) : opens 0 xs = List.replicate xs.length 0 := rfl
theorem opens_end {xs : List Ce} {k : Nat} (h : xs.length ≤ k) : opens k xs = xs.map Ce.n := by
  unfold opens
  rw [List.take_of_length_le (by simpa using h), Nat.sub_eq_zero_of_le h]
  simp
theorem opens_set {xs : List Ce} {k : Nat} (h : k < xs.length) : (opens k xs).set k ((xs.getD k cell.cz).n) = opens (k + 1) xs := by
  unfold opens
  have e : xs.length - k = (xs.length - (k + 1)) + 1 := by omega
  have hl : ((xs.map Ce.n).take k).length = k := by simp; omega
  rw [List.set_append, if_neg (by omega), hl, Nat.sub_self, e, List.replicate_succ, List.set_cons_zero]
  rw [List.take_add_one, List.getElem?_map, at_getD (z := cell.cz) h]
  simp
theorem wf_of {k : Int} (h : inI k) : (Lit.int .i64 k).wf = true := by
  simpa [Lit.wf, IntKind.min, IntKind.max, IntKind.signed, IntKind.bits, inI] using h
theorem gives_total {w0 : World} {D : List Fact} {j : Nat} {A : Option Addr} {n c : Nat} {ys : List Int} {s e : Int} (h : D[j]? = some (ownF (rdInt .i64) 1 2 A n c ys)) (hy : ys.length = n) (hw : (num.totV (num.tot 0 ys), num.totE (num.tot 0 ys)) = (s, e)) (hm : n ≤ 100) : Gives Tryz.prog w0 D 82 #[.slice A n c] (.tuple #[.int .i64 s, .int .i64 e]) := by
  intro w _ ha
  have hi := (ints_own (row_at h w ha)).ints
  simp only [Prod.mk.injEq] at hw
  rw [← hw.1, ← hw.2]
  exact (num.total_any A n c _ ys w hi hy (by omega)).mono (by rintro e w' ⟨rfl, rfl⟩; exact ⟨rfl, Below.refl _ _⟩)

theorem whole_is (A : Option Addr) (n c B : Nat) (xs : List Ce) {s e : Int} (w : World) (hx : Cls w B A xs) (hB : B ≤ w.heap.size) (hn : xs.length = n) (hm : n ≤ 100) (h : whole xs = (s, e))  : Calls Tryz.prog 49 #[.slice A n c] w fun e' w' => e' = .returned (.tuple #[.int .i64 s, .int .i64 e]) ∧ Below w.heap.size w w' :=
  have hf : ∀ k, k < n → inI (xs.getD k cell.cz).n := fun k hk => (hx.fine _ (List.mem_of_getElem? (at_getD (by omega)))).2.2.2
  calls_by (fn := Tryz.f49) (r := .tuple #[.int .i64 s, .int .i64 e]) (t := .w (Nat) none (fun x => .slice (some ⟨x, 0, none⟩) n n) (fun x => [ownF (rdInt .i64) 1 2 (some ⟨x, 0, none⟩) n n (List.replicate n 0)]) (fun x1 => let k0 : Option Addr := some ⟨x1, 0, none⟩; .l (Nat) (fun x => [(4, .slice k0 n n, none), (10, .slice A n c, none), (11, .int .i64 (n : Int), none), (12, .int .i64 (x : Int), none)]) (fun x => []) [] [] (fun x => [ownF (rdInt .i64) 1 2 k0 n n (opens x xs)]) (fun x => x ≤ n) (fun x => n - x) (0 : Nat) (fun y2 => .s (.p (blkA A) (offA A + y2 * 4) (cell.cc (xs.getD y2 cell.cz)) (.x (.pointer (some ⟨blkA k0, offA k0 + y2 * 1, none⟩)) (.w (Unit) (some 0) (fun x => undef) (fun x => [ownF (rdInt .i64) 1 2 k0 n n (opens (y2 + 1) xs)]) (fun x6 => .e (.int .i64 ((y2 + 1 : Nat) : Int)) .z)))) (.c (.tuple #[.int .i64 s, .int .i64 e]) .z)))) (X :=
 let k0 := List.replicate n 0; let k1 : Array Value := #[.int .i64 s, .int .i64 e]; let k2 := ([] : List (Option Blk)); StepM Tryz.prog w [] (Instr.makeSlice 25 (.int .i64 (n : Int)) (.int .i64 (n : Int))) (fun _ => False) (Nat) (fun x => .slice (some ⟨x, 0, none⟩) n n) (fun x => [ownF (rdInt .i64) 1 2 (some ⟨x, 0, none⟩) n n k0]) ∧ ∀ x1 : Nat, let k3 : Option Addr := some ⟨x1, 0, none⟩; Brings w [ownF (rdInt .i64) 1 2 k3 n n k0] [] ∧ ((0 : Nat) ≤ n) ∧ (([.slice k3 n n, .slice A n c, .int .i64 (n : Int), .int .i64 0] : List Value) = [.slice k3 n n, .slice A n c, .int .i64 (n : Int), .int .i64 ((0 : Nat) : Int)] ∧ k2 = [] ∧ Turns w [ownF (rdInt .i64) 1 2 k3 n n k0] [ownF (rdInt .i64) 1 2 k3 n n (opens (0 : Nat) xs)]) ∧ true = true ∧ ∀ (y2 : Nat), let k4 : List Fact := [ownF (rdInt .i64) 1 2 k3 n n (opens y2 xs)]; let k5 : Value := .pointer (some ⟨blkA k3, offA k3 + y2 * 1, none⟩); let k6 : List Fact := [ownF (rdInt .i64) 1 2 k3 n n (opens (y2 + 1) xs)]; let k7 := decide ((y2 : Int) < (n : Int)); (y2 ≤ n) → ∀ τ4 : Nat → Value, (k7 = true → Yields0 Tryz.prog w k4 (Instr.indexAt 23 (.slice A n c) (.int .i64 (y2 : Int))) (.pointer (some ⟨blkA A, offA A + y2 * 4, none⟩)) ∧ Reads0 w [] (blkA A) (offA A + y2 * 4) (cell.cc (xs.getD y2 cell.cz)) ∧ ∀ g1 : Nat, Yields0 Tryz.prog w k4 (Instr.indexAt 25 (.slice k3 n n) (.int .i64 (y2 : Int))) k5 ∧ StepU Tryz.prog w k4 (Instr.storeAt 2 k5 (.int .i64 ((xs.getD y2 cell.cz).n))) ((ownF (rdInt .i64) 1 2 k3 n n (opens y2 xs)).S) (Unit) (fun x => undef) (fun x => k6) ∧ ∀ x6 : Unit, (.int .i64 (IntKind.i64.wrap ((y2 : Int) + 1)) : Value) = .int .i64 ((y2 + 1 : Nat) : Int) ∧ ∃ x' : Nat, (x' ≤ n) ∧ (n - x' < n - y2) ∧ (([.slice k3 n n, .slice A n c, .int .i64 (n : Int), .int .i64 ((y2 + 1 : Nat) : Int)] : List Value) = [.slice k3 n n, .slice A n c, .int .i64 (n : Int), .int .i64 (x' : Int)] ∧ k2 = [] ∧ Turns w k6 [ownF (rdInt .i64) 1 2 k3 n n (opens x' xs)]) ∧ true = true) ∧ (k7 = false → Gives Tryz.prog w k4 82 #[.slice k3 n n] (.tuple k1) ∧ (.tuple k1 : Value) = .tuple k1)) Tryz.func49 (by kernel_rfl)
  (⟨(make_int Tryz.underlying25 info_i64 (by omega) (by unfold maxLen; omega)), fun x1 => ⟨(fun w _ _ => news_nil), (Nat.zero_le _), ⟨rfl, rfl, (turns_sub (sub_one (by rw [opens_zero, hn])))⟩, rfl, fun y2 I3 τ4 => ⟨fun h5 => have h5 : (y2 : Int) < (n : Int) := (by simpa using h5)
⟨(low_index Tryz.underlying23 info_cell cell_cells hB hx hn (by omega)), (low_reads cell_cells hB hx (at_getD (by rw [hn]; exact (by omega)))), fun g1 => ⟨(own_index Tryz.underlying25 info_i64 (row_at (j := 0) rfl) (by omega)), ⟨(step_to (opens_set (by omega)) (store_int (row_at (j := 0) rfl) (by omega) (wf_of (hf _ (by omega))) rfl)), fun x6 => ⟨wrap_is (by omega) (by omega) (by omega), ⟨((y2 + 1) : Nat), (by omega), (by omega), ⟨rfl, rfl, (turns_sub (.cons_cons _ (List.nil_sublist _)))⟩, rfl⟩⟩⟩⟩⟩,
 fun h5 => have h5 : ¬ (y2 : Int) < (n : Int) := (by simpa using h5)
⟨gives_total (j := 0) rfl (by rw [opens_end (by omega)]; simpa using hn) (by rw [opens_end (by omega)]; exact h) hm, rfl⟩⟩⟩⟩)

end Go.Proofs.YtiljgndgffoloaaGreat.limit
end
