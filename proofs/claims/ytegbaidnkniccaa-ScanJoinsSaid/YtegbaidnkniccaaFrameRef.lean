/-
  Contracts of the document's own answer for layer 4.
-/
import Derived.Test.YtegbaidnkniccaaFrameImpl4
import Derived.Test.YtegbaidnkniccaaCrcRef
import Derived.Test.YtegbaidnkniccaaStr
namespace Go.Proofs.Ytegbaidnkniccaa.frame
open Go.RowKit Go.Proofs.Ytegbaidnkniccaa
set_option linter.unusedVariables false

theorem rright_any (f : Fr) (w : World) : Calls Try.prog 22 #[.agg (fc f)] w fun e w' => e = .returned (.bool (right f)) ∧ Below w.heap.size w w' := by
  obtain ⟨e, l, k, b0, b1, b2, b3, b4, b5⟩ := f
  have hc : ∃ r, Hid (right ⟨e, l, k, b0, b1, b2, b3, b4, b5⟩ = r) ∧ ((e < 1 ∧ r = false) ∨ (1 ≤ e ∧ 1000000 < e ∧ r = false) ∨ (1 ≤ e ∧ e ≤ 1000000 ∧ l < 1 ∧ r = false) ∨ (1 ≤ e ∧ e ≤ 1000000 ∧ 1 ≤ l ∧ 1000000000 < l ∧ r = false) ∨
      (1 ≤ e ∧ e ≤ 1000000 ∧ 1 ≤ l ∧ l ≤ 1000000000 ∧ k < 1 ∧ r = false) ∨ (1 ≤ e ∧ e ≤ 1000000 ∧ 1 ≤ l ∧ l ≤ 1000000000 ∧ 1 ≤ k ∧ 6 < k ∧ r = false) ∨ (1 ≤ e ∧ e ≤ 1000000 ∧ 1 ≤ l ∧ l ≤ 1000000000 ∧ 1 ≤ k ∧ k ≤ 6 ∧ r = true)) := by
    refine ⟨_, Lib.hid rfl, ?_⟩
    simp only [right, decide_eq_false_iff_not, decide_eq_true_eq]
    omega
  obtain ⟨r, HR, hc⟩ := hc
  show Calls Try.prog 22 #[.agg #[.int .i64 e, .int .i64 l, .int .i64 k, .int .i64 b0, .int .i64 b1, .int .i64 b2, .int .i64 b3, .int .i64 b4, .int .i64 b5]] w _
  rw [HR.out]
  rcases hc with ⟨h1, rfl⟩ | ⟨h1, h2, rfl⟩ | ⟨h1, h2, h3, rfl⟩ | ⟨h1, h2, h3, h4, rfl⟩ | ⟨h1, h2, h3, h4, h5, rfl⟩ | ⟨h1, h2, h3, h4, h5, h6, rfl⟩ | ⟨h1, h2, h3, h4, h5, h6, rfl⟩
  all_goals
    clear HR
    go_enter Try.func22, Try.ntmps22
    go_wp2
    go_ret
    exact ⟨retB (by first | rfl | (simp; omega)), (Below.refl _ _).alloc (Nat.le_refl _) _⟩
theorem rright_of {e l k b0 b1 b2 b3 b4 b5 : Int} {f : Fr} {r : Bool} (h : (⟨e, l, k, b0, b1, b2, b3, b4, b5⟩ : Fr) = f) (hr : right f = r) (W : World) : Calls Try.prog 22 #[.agg #[.int .i64 e, .int .i64 l, .int .i64 k, .int .i64 b0, .int .i64 b1, .int .i64 b2, .int .i64 b3, .int .i64 b4, .int .i64 b5]] W fun e' w' => e' = .returned (.bool r) ∧ Below W.heap.size W w' := by
  subst h hr; exact rright_any ⟨e, l, k, b0, b1, b2, b3, b4, b5⟩ W

/-- what four, eight hand back: bytes in a block of the call's own. -/
def Made (bs : List Nat) (n : Nat) (w : World) (e : Ending) (w' : World) : Prop :=
  ∃ A c, e = .returned (.slice A n c) ∧ OwnBys w' w.heap.size 5 A n c bs ∧ Below w.heap.size w w'

theorem four_any (v : Nat) (w : World) (hv : v < 18446744073709551616) : Calls Try.prog 26 #[.int .u64 (v : Int)] w (Made (be 4 v) 4 w) := by
  go_enter Try.func26, Try.ntmps26
  go_wp2
  go_ret
  refine ⟨_, _, rfl, OwnBys.new (Nat.le_refl _) _ ?_ (be_lt 4 v) rfl (by unfold maxLen; omega), (Below.refl _ _).alloc (Nat.le_refl _) _⟩
  simp [be, toI]

theorem four_is (v : Nat) (z : Int) (w : World) (hz : z = (v : Int)) (hv : v < 18446744073709551616) : Calls Try.prog 26 #[.int .u64 z] w (Made (be 4 v) 4 w) := by
  subst hz; exact four_any v w hv
theorem be_split (n : Nat) : be 4 (n / 4294967296) ++ be 4 n = be 8 n := by
  simp [be, Nat.div_div_eq_div_mul]
theorem reight_any (x : Int) (w : World) : Calls Try.prog 27 #[.int .i64 x] w (Made (be 8 (u x)) 8 w) := by
  have hinfo : Hid ((Try.prog.info? 5).map (fun i => (i.zero, i.size, i.bytes)) = some (some (.int .u8 0), 1, 1)) := Lib.hid (by kernel_rfl)
  have hl := u_lt x
  go_enter Try.func27, Try.ntmps27
  go_wp2_with fail
  refine Calls.mono (four_is (u x / 4294967296) _ _ (by rw [wrap_u]; simp) (by omega)) ?_
  rintro e w1 ⟨A1, c1, rfl, hown1, hb1⟩
  go_wp2_with fail
  refine Calls.mono (four_is (u x) _ _ (wrap_u x) (by omega)) ?_
  rintro e w2 ⟨A2, c2, rfl, hown2, hb2⟩
  have ho := own_later hown1 hb2
  have hbb : Below w.heap.size w w2 := hb1.trans (hb2.mono hb1.size)
  go_wp2_with (at_builtin; refine wpList_append_bys rfl (.tmp 6) (.tmp 9) _ rfl w.heap.size 5 Try.underlying23 hinfo.out rfl ho rfl hown2.bys (be_len 4 _) (by omega) hbb.size ?_; intro A3 c3 w3 hown3 hgr3 hat3; have hb3 : Below w.heap.size w w3 := hbb.grown hgr3 hbb.size (by intro g' hgg; exact (ho.block g' hgg).1); clear hgr3 hat3)
  go_ret
  rw [be_split] at hown3
  exact ⟨A3, c3, rfl, hown3, hb3⟩
theorem reight_is (x : Int) (bs : List Nat) (w : World) (h : be 8 (u x) = bs) : Calls Try.prog 27 #[.int .i64 x] w (Made bs 8 w) := by
  rw [← h]; exact reight_any x w

theorem rnumber_any (b o cap n : Nat) (z : Int) (bs : List Nat) (a v : Nat) (w : World) (hz : z = (a : Int)) (hx : Bys w w.heap.size (some ⟨b, o, none⟩) bs) (hn : bs.length = n) (ha : a + 4 ≤ n) (hnm : n ≤ 1000) (hv : num (seg bs a 4) = v) :
    Calls Try.prog 30 #[.slice (some ⟨b, o, none⟩) n cap, .int .i64 z] w fun e w' => e = .returned (.int .i64 (v : Int)) ∧ ∃ m, w' = w.drewN m := by
  subst hz
  obtain ⟨b0, o0, x0, e0, hb0, X0, c0, l0⟩ := hx.at_ (j := a) (by omega)
  obtain ⟨b1, o1, x1, e1, hb1, X1, c1, l1⟩ := hx.at_ (j := a + 1) (by omega)
  obtain ⟨b2, o2, x2, e2, hb2, X2, c2, l2⟩ := hx.at_ (j := a + 2) (by omega)
  obtain ⟨b3, o3, x3, e3, hb3, X3, c3, l3⟩ := hx.at_ (j := a + 3) (by omega)
  simp only [Option.some.injEq, Addr.mk.injEq, and_true] at e0 e1 e2 e3
  obtain ⟨rfl, rfl⟩ := e0
  obtain ⟨rfl, rfl⟩ := e1
  obtain ⟨rfl, rfl⟩ := e2
  obtain ⟨rfl, rfl⟩ := e3
  have HV : Hid (v = x0 * 16777216 + x1 * 65536 + x2 * 256 + x3) := Lib.hid (by
    rw [← hv]
    have e : seg bs a 4 = [x0, x1, x2, x3] := by
      unfold seg
      apply List.ext_getElem?
      intro i
      rw [List.getElem?_take, List.getElem?_drop]
      match i with
      | 0 => simpa using X0.out
      | 1 => simpa using X1.out
      | 2 => simpa using X2.out
      | 3 => simpa using X3.out
      | i + 4 => rw [if_neg (by omega)]; simp
    rw [e]
    simp [num]
    omega)
  have i0 : (0 : Int) ≤ (a : Int) := by omega
  have i1 : (a : Int) + 3 < (n : Int) := by omega
  have i2 : IntKind.i64.wrap ((a : Int) + 1) = (a : Int) + 1 := by rw [IntKind.wrap_i64]; omega
  have i3 : IntKind.i64.wrap ((a : Int) + 2) = (a : Int) + 2 := by rw [IntKind.wrap_i64]; omega
  have i4 : IntKind.i64.wrap ((a : Int) + 3) = (a : Int) + 3 := by rw [IntKind.wrap_i64]; omega
  clear hx hn hv
  go_enter Try.func30, Try.ntmps30
  go_wp2
  go_region
  go_wp2
  go_ret
  refine ⟨reti ?_, 1, rfl⟩
  rw [HV.out]
  simp

end Go.Proofs.Ytegbaidnkniccaa.frame
