/-
  PROVED: the law NumOver answers true at every input, and leaves what it was given as it was.
  CONDITIONS: none.
-/
import Derived.Test.YtcbnmdkjlffogaaRows
import Derived.WalkKit
import Derived.ProofKit
import Derived.OpenShut
import Derived.ShutString
import Derived.Below
import Derived.Test.YtcbnmdkjlffogaaAwake01
namespace Go.Proofs.Ytcbnmdkjlffogaa.numOver
open Go.ChangeShapes Go.WideShapes Go.ChangeAt Go.RowKit
open Go.ChangeMaps (open_string shut_string)
set_option linter.unusedVariables false

theorem own : ownKnob Try.prog.godebug = none := by kernel_rfl

set_option maxHeartbeats 4000000 in
theorem walk (a0 : Int) (a1 : Int) (w0 : (Lit.int .i64 a0).wf = true) (w1 : (Lit.int .i64 a1).wf = true) (w : World) :
    Calls Try.prog 5 #[.int .i64 a0, .int .i64 a1] w fun e w' => e = .returned (.bool true) ∧ Below w.heap.size w w' := by
  have i0 : Hid (inI a0) := Lib.hid (inI_of_wf w0)
  have i1 : Hid (inI a1) := Lib.hid (inI_of_wf w1)
  have iz : Hid (inI 0) := Lib.hid (by unfold inI; omega)
  have b0 := inI_of_wf w0
  have b1 := inI_of_wf w1
  unfold inI at b0 b1
  clear w0 w1
  obtain ⟨s, hs⟩ : ∃ s, Hid (a0 + a1 = s) := ⟨_, Lib.hid rfl⟩
  obtain ⟨m, hm⟩ : ∃ m, Hid (a0 * a1 = m) := ⟨_, Lib.hid rfl⟩
  have hneg : Hid (a1 = -1 → 0 - a0 = m) := Lib.hid (by intro h; rw [← hm.out, h]; omega)
  have htd : Hid (a1 ≠ 0 → m.tdiv a1 = a0) := Lib.hid (by intro h; rw [← hm.out]; exact Int.mul_tdiv_cancel _ h)
  have htm : Hid (m.tmod a1 = 0) := Lib.hid (by rw [← hm.out]; exact Int.mul_tmod_left _ _)
  have hmul : (¬ inI m ∧ (a0 != 0) = true ∧ (a1 != 0) = true ∧ (a0 != 1) = true ∧ (a1 != 1) = true) ∨ (inI m ∧ a1 = 0 ∧ m = 0) ∨ (inI m ∧ a1 = -1 ∧ Hid (0 - a0 = m)) ∨ (inI m ∧ a1 ≠ 0 ∧ a1 ≠ -1 ∧ wrap64 (m.tdiv a1) = a0) := by
    have h0 := i0.out
    have h1 := i1.out
    by_cases jM : inI m
    · by_cases e0 : a1 = 0
      · exact .inr (.inl ⟨jM, e0, by rw [← hm.out, e0]; simp⟩)
      · by_cases e1 : a1 = -1
        · exact .inr (.inr (.inl ⟨jM, e1, hneg.out e1⟩))
        · refine .inr (.inr (.inr ⟨jM, e0, e1, ?_⟩))
          rw [htd.out e0]
          unfold inI at h0
          unfold wrap64; omega
    · refine .inl ⟨jM, ?_, ?_, ?_, ?_⟩ <;> rw [bne_iff_ne] <;> intro h2 <;> apply jM <;> rw [← hm.out, h2] <;> simp <;> first | exact iz.out | exact h0 | exact h1
  have hadd : (inI s ∧ 0 ≤ a0 ∧ 0 ≤ a1 ∧ ¬ 9223372036854775807 - a0 < a1) ∨ (¬ inI s ∧ 0 ≤ a0 ∧ 0 ≤ a1 ∧ 9223372036854775807 - a0 < a1) ∨
      (inI s ∧ a0 < 0 ∧ a1 < 0 ∧ ¬ a1 < -9223372036854775808 - a0) ∨ (¬ inI s ∧ a0 < 0 ∧ a1 < 0 ∧ a1 < -9223372036854775808 - a0) ∨
      (inI s ∧ 0 ≤ a0 ∧ a1 < 0) ∨ (inI s ∧ a0 < 0 ∧ 0 ≤ a1) := by
    have h0 := i0.out
    have h1 := i1.out
    have h2 := hs.out
    unfold inI at *
    omega
  have htm' : m.tmod a1 = 0 := htm.out
  clear hneg htd htm
  rcases hmul with ⟨jM, n1, n2, n3, n4⟩ | ⟨jM, rfl, rfl⟩ | ⟨jM, rfl, hneg⟩ | ⟨jM, n1, n2, hq⟩
  all_goals rcases hadd with ⟨jS, k1, k2, k3⟩ | ⟨jS, k1, k2, k3⟩ | ⟨jS, k1, k2, k3⟩ | ⟨jS, k1, k2, k3⟩ | ⟨jS, k1, k2⟩ | ⟨jS, k1, k2⟩
  all_goals try (exfalso; omega)
  all_goals
    go_enter Try.func5, Try.ntmps5
    go_wp2_with (first
      | ((with_reducible refine (num.awake_any _).mono ?_); rintro e w' ⟨rfl, hg⟩)
      | ((with_reducible refine (num.add_is a0 _ s _ i0.out i1.out jS hs.out).mono ?_); rintro e w' ⟨rfl, rfl⟩)
      | ((with_reducible refine (num.add_over a0 _ _ i0.out i1.out (hs.out ▸ jS)).mono ?_); rintro e w' ⟨rfl, rfl⟩)
      | ((with_reducible refine (num.mul_is a0 _ _ _ i0.out i1.out jM hm.out).mono ?_); rintro e w' ⟨rfl, rfl⟩)
      | ((with_reducible refine (num.mul_over a0 _ _ i0.out i1.out (hm.out ▸ jM)).mono ?_); rintro e w' ⟨rfl, rfl⟩)
      | ((with_reducible refine (num.sub_is 0 a0 m _ iz.out i0.out jM hneg.out).mono ?_); rintro e w' ⟨rfl, rfl⟩))
    go_ret
    exact ⟨rfl, hg⟩

set_option maxRecDepth 100000 in
theorem lifted (os : Os) (started : os.Started) (H : Type) (enc : TypeId × Value → H) :
    ReturnsInHanded {} Try.checked os 5 .any (Rows.numOverSpec.pre6 enc Try.prog Try.f5 Rows.numOverRow.domain false) (Rows.numOverSpec.post enc Try.prog Try.f5 false true false false) := by
  refine returnsInHanded_of_change (C := Try.checked) own started (by kernel_rfl) Try.func5
    (ChangeSpec.witness6 (enc := enc) (C := Try.checked) false ⟨#[], #[.int .i64 0, .int .i64 0], []⟩ 8 (by kernel_rfl) (by kernel_rfl) (by kernel_rfl) (by kernel_rfl)) ?_
  intro W base args ds gs before hval0 hW hcnd _
  have hval : ∀ (j : Nat) t v, Try.f5.params[j]? = some t → args[j]? = some v → Value.okWide Try.prog W .any base t v := hval0
  have hW' := hW
  obtain ⟨p, q, hA0, hV, rfl, hfz, hnd⟩ := hW
  have hA : DataW.TrodAll enc Try.prog W 0 (fun _ => true) true Try.f5.params.toList args.toList ds p := hA0
  rw [Try.params5] at hA hval
  obtain ⟨v0, vs0, d0, ds0, p0, q0, hargs, rfl, rfl, h0, r0⟩ := trodAll_cons hA
  obtain ⟨v1, vs1, d1, ds1, p1, q1, rfl, rfl, rfl, h1, r1⟩ := trodAll_cons r0
  obtain ⟨rfl, rfl, rfl⟩ := trodAll_nil r1
  obtain rfl : args = #[v0, v1] := by cases args; simp_all
  obtain ⟨rfl, rfl⟩ := trodVars_none hV
  obtain ⟨a0, rfl, rfl, rfl, w0⟩ := open_int Try.underlying2 (hval 0 2 v0 rfl rfl) h0
  obtain ⟨a1, rfl, rfl, rfl, w1⟩ := open_int Try.underlying2 (hval 1 2 v1 rfl rfl) h1
  clear hA0 hval0
  refine (walk a0 a1 w0 w1 W).mono fun e W' ⟨he, hg⟩ => ?_
  subst he
  exact ⟨_, rfl, _, _, _, [], _, [], hW', (trodAll_cons_mk (shut_bool Try.underlying4 _) trodAll_mk0), (trodAll_cons_mk (shut_int Try.underlying2 w0) (trodAll_cons_mk (shut_int Try.underlying2 w1) trodAll_mk0)), rfl, hg.frame _, fun h => by cases h⟩

theorem over : Rows.numOverRow.holds Try.pinned (OpenSpec.ofChange Rows.numOverSpec) :=
  OpenClaim.holds_of_wide 5 Try.f5 rfl rfl rfl rfl rfl rfl rfl ⟨rfl, rfl, rfl, rfl, rfl⟩ rfl rfl rfl rfl rfl (by kernel_rfl) Try.func5 (by kernel_rfl)
    (of_decide_eq_true (by kernel_rfl)) (by unfold Func.isWrapper; first | (rw [if_pos (by decide +kernel)]; kernel_rfl) | (rw [if_neg (by decide +kernel)]; exact ⟨rfl, rfl⟩))
    (fun os started H enc _ => lifted os started H enc)

theorem proved : Rows.NumOverSaid :=
  over
#print axioms proved
end Go.Proofs.Ytcbnmdkjlffogaa.numOver
