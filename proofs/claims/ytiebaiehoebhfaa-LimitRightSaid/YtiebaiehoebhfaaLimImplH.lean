/-
  The contract of the landed limit's Whole.
-/
import Derived.Test.YtiebaiehoebhfaaElCe
import Derived.Test.YtiebaiehoebhfaaElI64
import Derived.Test.YtiebaiehoebhfaaLimMath
import Derived.Test.YtiebaiehoebhfaaTot
namespace Go.Proofs.Ytiebaiehoebhfaa.limit
open Go.RowKit Go.Proofs.Ytiebaiehoebhfaa Go.Proofs.Ytiebaiehoebhfaa.cell Go.Proofs.Ytiebaiehoebhfaa.num
set_option linter.unusedVariables false
set_option linter.unusedSimpArgs false

/-- what the first k have open, and 0 for the others. -/
def opens (k : Nat) (xs : List Ce) : List Int := (xs.map Ce.n).take k ++ List.replicate (xs.length - k) 0
theorem opens_zero (xs : List Ce) : opens 0 xs = List.replicate xs.length 0 := rfl
theorem opens_end {xs : List Ce} {k : Nat} (h : xs.length ≤ k) : opens k xs = xs.map Ce.n := by
  unfold opens
  rw [List.take_of_length_le (by simpa using h), Nat.sub_eq_zero_of_le h]
  simp
theorem opens_set {xs : List Ce} {k : Nat} (h : k < xs.length) : (opens k xs).set k ((xs.getD k cell.cz).n) = opens (k + 1) xs := by
  unfold opens
  have e : xs.length - k = (xs.length - (k + 1)) + 1 := by omega
  have hl : ((xs.map Ce.n).take k).length = k := by simp; omega
  rw [List.set_append, if_neg (by omega), hl, Nat.sub_self, e, List.replicate_succ, List.set_cons_zero]
  rw [List.take_add_one, List.getElem?_map, getD_at (z := cell.cz) h]
  simp
theorem sub_one {a b : Fact} (h : a = b) : List.Sublist [a] [b] := by rw [h]; exact List.Sublist.refl _
theorem step_to {P : Program} {w0 : World} {D : List Fact} {m : Sem Unit} {X : Nat → Prop} {r : Unit → Value} {α : Type} {R : Rd α} {size n c : Nat} {e : TypeId} {A : Option Addr} {xs ys : List α} (h : xs = ys) (hs : StepU P w0 D m X Unit r (fun _ => [ownF R size e A n c xs])) : StepU P w0 D m X Unit r (fun _ => [ownF R size e A n c ys]) := h ▸ hs
theorem wf_of {k : Int} (h : inI k) : (Lit.int .i64 k).wf = true := by
  simpa [Lit.wf, IntKind.min, IntKind.max, IntKind.signed, IntKind.bits, inI] using h
theorem store_int {P : Program} {w0 : World} {D : List Fact} {e T : TypeId} {k : IntKind} {A : Option Addr} {n c : Nat} {xs : List Int} {j : Nat} {x : Int} (hrow : ∀ w, All D w → OwnElems (rdInt k) 1 w 0 e (fun _ => False) A n c xs) (hj : j < n) (hw : (Lit.int k x).wf = true) (hi : (P.info? T).map (·.size) = some 1) :
    StepU P w0 D (Instr.storeAt T (.pointer (some ⟨blkA A, offA A + j * 1, none⟩)) (.int k x)) (ownF (rdInt k) 1 e A n c xs).S Unit (fun _ => undef) (fun _ => [ownF (rdInt k) 1 e A n c (xs.set j x)]) :=
  store_core (keeps_int k) (leaf_int k) (vs := [.int k x]) hrow hj rfl rfl (fun _ => ⟨rfl, hw⟩) hi
theorem gives_total {w0 : World} {D : List Fact} {j : Nat} {A : Option Addr} {n c : Nat} {ys : List Int} {s e : Int} (h : D[j]? = some (ownF (rdInt .i64) 1 2 A n c ys)) (hy : ys.length = n) (hw : (num.totV (num.tot 0 ys), num.totE (num.tot 0 ys)) = (s, e)) (hm : n ≤ 100) : Gives Try.prog w0 D 18 #[.slice A n c] (.tuple #[.int .i64 s, .int .i64 e]) := by
  intro w _ ha
  have hi := (ints_own (row_at h w ha)).ints
  simp only [Prod.mk.injEq] at hw
  rw [← hw.1, ← hw.2]
  exact (num.total_any A n c _ ys w hi hy (by omega)).mono (by rintro e w' ⟨rfl, rfl⟩; exact ⟨rfl, Below.refl _ _⟩)

theorem whole_is (A : Option Addr) (n c B : Nat) (xs : List Ce) {s e : Int} (w : World) (hx : Cls w B A xs) (hB : B ≤ w.heap.size) (hn : xs.length = n) (hm : n ≤ 100) (h : whole xs = (s, e))  : Calls Try.prog 7 #[.slice A n c] w fun e' w' => e' = .returned (.tuple #[.int .i64 s, .int .i64 e]) ∧ Below w.heap.size w w' :=
  have hf : ∀ k, k < n → inI (xs.getD k cell.cz).n := fun k hk => (hx.fine _ (List.mem_of_getElem? (getD_at (by omega)))).2.2.2
  calls_by (fn := Try.f7) (r := .tuple #[.int .i64 s, .int .i64 e]) (t := .w (Nat) none (fun x => .slice (some ⟨x, 0, none⟩) n n) (fun x => [ownF (rdInt .i64) 1 2 (some ⟨x, 0, none⟩) n n (List.replicate n 0)]) (fun x1 => .l (Nat) (fun x => [(4, .slice (some ⟨x1, 0, none⟩) n n, none), (10, .slice A n c, none), (11, .int .i64 (n : Int), none), (12, .int .i64 (x : Int), none)]) (fun x => []) [] [] (fun x => [ownF (rdInt .i64) 1 2 (some ⟨x1, 0, none⟩) n n (opens x xs)]) (fun x => x ≤ n) (fun x => n - x) (0 : Nat) (fun y2 => .s (.p (blkA A) (offA A + y2 * 4) (cell.cc (xs.getD y2 cell.cz)) (.x (.pointer (some ⟨blkA (some ⟨x1, 0, none⟩), offA (some ⟨x1, 0, none⟩) + y2 * 1, none⟩)) (.w (Unit) (some 0) (fun x => undef) (fun x => [ownF (rdInt .i64) 1 2 (some ⟨x1, 0, none⟩) n n (opens (y2 + 1) xs)]) (fun x6 => .e (.int .i64 ((y2 + 1 : Nat) : Int)) .z)))) (.c (.tuple #[.int .i64 s, .int .i64 e]) .z)))) (X :=
 StepM Try.prog w [] (Instr.makeSlice 40 (.int .i64 (n : Int)) (.int .i64 (n : Int))) (fun _ => False) (Nat) (fun x => .slice (some ⟨x, 0, none⟩) n n) (fun x => [ownF (rdInt .i64) 1 2 (some ⟨x, 0, none⟩) n n (List.replicate n 0)]) ∧ ∀ x1 : Nat, Brings w [ownF (rdInt .i64) 1 2 (some ⟨x1, 0, none⟩) n n (List.replicate n 0)] [] ∧ ((0 : Nat) ≤ n) ∧ (([.slice (some ⟨x1, 0, none⟩) n n, .slice A n c, .int .i64 (n : Int), .int .i64 0] : List Value) = [.slice (some ⟨x1, 0, none⟩) n n, .slice A n c, .int .i64 (n : Int), .int .i64 ((0 : Nat) : Int)] ∧ ([] : List (Option Blk)) = [] ∧ List.Sublist ([ownF (rdInt .i64) 1 2 (some ⟨x1, 0, none⟩) n n (opens (0 : Nat) xs)] : List Fact) [ownF (rdInt .i64) 1 2 (some ⟨x1, 0, none⟩) n n (List.replicate n 0)]) ∧ true = true ∧ ∀ (y2 : Nat), (y2 ≤ n) → ∀ τ4 : Nat → Value, ((decide ((y2 : Int) < (n : Int))) = true → Yields0 Try.prog w [ownF (rdInt .i64) 1 2 (some ⟨x1, 0, none⟩) n n (opens y2 xs)] (Instr.indexAt 24 (.slice A n c) (.int .i64 (y2 : Int))) (.pointer (some ⟨blkA A, offA A + y2 * 4, none⟩)) ∧ Reads0 w [] (blkA A) (offA A + y2 * 4) (cell.cc (xs.getD y2 cell.cz)) ∧ ∀ g1 : Nat, Yields0 Try.prog w [ownF (rdInt .i64) 1 2 (some ⟨x1, 0, none⟩) n n (opens y2 xs)] (Instr.indexAt 40 (.slice (some ⟨x1, 0, none⟩) n n) (.int .i64 (y2 : Int))) (.pointer (some ⟨blkA (some ⟨x1, 0, none⟩), offA (some ⟨x1, 0, none⟩) + y2 * 1, none⟩)) ∧ StepU Try.prog w [ownF (rdInt .i64) 1 2 (some ⟨x1, 0, none⟩) n n (opens y2 xs)] (Instr.storeAt 2 (.pointer (some ⟨blkA (some ⟨x1, 0, none⟩), offA (some ⟨x1, 0, none⟩) + y2 * 1, none⟩)) (.int .i64 ((xs.getD y2 cell.cz).n))) ((ownF (rdInt .i64) 1 2 (some ⟨x1, 0, none⟩) n n (opens y2 xs)).S) (Unit) (fun x => undef) (fun x => [ownF (rdInt .i64) 1 2 (some ⟨x1, 0, none⟩) n n (opens (y2 + 1) xs)]) ∧ ∀ x6 : Unit, (.int .i64 (IntKind.i64.wrap ((y2 : Int) + 1)) : Value) = .int .i64 ((y2 + 1 : Nat) : Int) ∧ ∃ x' : Nat, (x' ≤ n) ∧ (n - x' < n - y2) ∧ (([.slice (some ⟨x1, 0, none⟩) n n, .slice A n c, .int .i64 (n : Int), .int .i64 ((y2 + 1 : Nat) : Int)] : List Value) = [.slice (some ⟨x1, 0, none⟩) n n, .slice A n c, .int .i64 (n : Int), .int .i64 (x' : Int)] ∧ ([] : List (Option Blk)) = [] ∧ List.Sublist ([ownF (rdInt .i64) 1 2 (some ⟨x1, 0, none⟩) n n (opens x' xs)] : List Fact) [ownF (rdInt .i64) 1 2 (some ⟨x1, 0, none⟩) n n (opens (y2 + 1) xs)]) ∧ true = true) ∧ ((decide ((y2 : Int) < (n : Int))) = false → Gives Try.prog w [ownF (rdInt .i64) 1 2 (some ⟨x1, 0, none⟩) n n (opens y2 xs)] 18 #[.slice (some ⟨x1, 0, none⟩) n n] (.tuple #[.int .i64 s, .int .i64 e]) ∧ (.tuple #[.int .i64 s, .int .i64 e] : Value) = .tuple #[.int .i64 s, .int .i64 e])) Try.func7 (by kernel_rfl)
  (⟨(make_int Try.underlying40 info_i64 (by omega) (by unfold maxLen; omega)), fun x1 => ⟨(fun w _ _ => news_nil), (Nat.zero_le _), ⟨rfl, rfl, (sub_one (by rw [opens_zero, hn]))⟩, rfl, fun y2 I3 τ4 => ⟨fun h5 => have h5 : (y2 : Int) < (n : Int) := (by simpa using h5)
⟨(low_index Try.underlying24 info_cell cell_cells hB hx hn (by omega)), (low_reads cell_cells hB hx (getD_at (by rw [hn]; exact (by omega)))), fun g1 => ⟨(own_index Try.underlying40 info_i64 (row_at (j := 0) rfl) (by omega)), ⟨(step_to (opens_set (by omega)) (store_int (row_at (j := 0) rfl) (by omega) (wf_of (hf _ (by omega))) rfl)), fun x6 => ⟨wrap_is (by omega) (by omega) (by omega), ⟨((y2 + 1) : Nat), (by omega), (by omega), ⟨rfl, rfl, (.cons_cons _ (List.nil_sublist _))⟩, rfl⟩⟩⟩⟩⟩,
 fun h5 => have h5 : ¬ (y2 : Int) < (n : Int) := (by simpa using h5)
⟨gives_total (j := 0) rfl (by rw [opens_end (by omega)]; simpa using hn) (by rw [opens_end (by omega)]; exact h) hm, rfl⟩⟩⟩⟩)

end Go.Proofs.Ytiebaiehoebhfaa.limit
