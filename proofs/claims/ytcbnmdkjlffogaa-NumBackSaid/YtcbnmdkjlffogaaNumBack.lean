/-
  PROVED: the law NumBack answers true at every input, and leaves what it was given as it was.
  CONDITIONS: none.
-/
import Derived.Test.YtcbnmdkjlffogaaRows
import Derived.WalkKit
import Derived.ProofKit
import Derived.OpenShut
import Derived.ShutString
import Derived.Below
import Derived.Test.YtcbnmdkjlffogaaAwake01
namespace Go.Proofs.Ytcbnmdkjlffogaa.numBack
open Go.ChangeShapes Go.WideShapes Go.ChangeAt Go.RowKit
open Go.ChangeMaps (open_string shut_string)
set_option linter.unusedVariables false

theorem own : ownKnob Try.prog.godebug = none := by kernel_rfl

theorem walk (a0 : Int) (a1 : Int) (w0 : (Lit.int .i64 a0).wf = true) (w1 : (Lit.int .i64 a1).wf = true) (w : World) :
    Calls Try.prog 4 #[.int .i64 a0, .int .i64 a1] w fun e w' => e = .returned (.bool true) ∧ Below w.heap.size w w' := by
  have i0 : Hid (inI a0) := Lib.hid (inI_of_wf w0)
  have i1 : Hid (inI a1) := Lib.hid (inI_of_wf w1)
  clear w0 w1
  have iz : Hid (inI 0) := Lib.hid (by unfold inI; omega)
  have hz : Hid (a0 - a0 = 0) := Lib.hid (by omega)
  obtain ⟨s, hs⟩ : ∃ s, Hid (a0 + a1 = s) := ⟨_, Lib.hid rfl⟩
  obtain ⟨d, hd⟩ : ∃ d, Hid (a0 - a1 = d) := ⟨_, Lib.hid rfl⟩
  obtain ⟨m, hm⟩ : ∃ m, Hid (a0 * a1 = m) := ⟨_, Lib.hid rfl⟩
  have hs' : Hid (a1 + a0 = s) := Lib.hid (by rw [Int.add_comm]; exact hs.out)
  have hm' : Hid (a1 * a0 = m) := Lib.hid (by rw [Int.mul_comm]; exact hm.out)
  have hsb : Hid (s - a1 = a0) := Lib.hid (by have := hs.out; omega)
  have hsa : Hid (s - a0 = a1) := Lib.hid (by have := hs.out; omega)
  have hda : Hid (d + a1 = a0) := Lib.hid (by have := hd.out; omega)
  by_cases jS : inI s <;> by_cases jD : inI d <;> by_cases jM : inI m
  all_goals
    go_enter Try.func4, Try.ntmps4
    go_wp2_with (first
      | ((with_reducible refine (num.awake_any _).mono ?_); rintro e w' ⟨rfl, hg⟩)
      | ((with_reducible refine (num.add_is a0 a1 s _ i0.out i1.out jS hs.out).mono ?_); rintro e w' ⟨rfl, rfl⟩)
      | ((with_reducible refine (num.add_over a0 a1 _ i0.out i1.out (hs.out ▸ jS)).mono ?_); rintro e w' ⟨rfl, rfl⟩)
      | ((with_reducible refine (num.add_is a1 a0 s _ i1.out i0.out jS hs'.out).mono ?_); rintro e w' ⟨rfl, rfl⟩)
      | ((with_reducible refine (num.add_over a1 a0 _ i1.out i0.out (hs'.out ▸ jS)).mono ?_); rintro e w' ⟨rfl, rfl⟩)
      | ((with_reducible refine (num.sub_is s a1 a0 _ jS i1.out i0.out hsb.out).mono ?_); rintro e w' ⟨rfl, rfl⟩)
      | ((with_reducible refine (num.sub_is s a0 a1 _ jS i0.out i1.out hsa.out).mono ?_); rintro e w' ⟨rfl, rfl⟩)
      | ((with_reducible refine (num.sub_is a0 a1 d _ i0.out i1.out jD hd.out).mono ?_); rintro e w' ⟨rfl, rfl⟩)
      | ((with_reducible refine (num.sub_over a0 a1 _ i0.out i1.out (hd.out ▸ jD)).mono ?_); rintro e w' ⟨rfl, rfl⟩)
      | ((with_reducible refine (num.add_is d a1 a0 _ jD i1.out i0.out hda.out).mono ?_); rintro e w' ⟨rfl, rfl⟩)
      | ((with_reducible refine (num.sub_is a0 a0 0 _ i0.out i0.out iz.out hz.out).mono ?_); rintro e w' ⟨rfl, rfl⟩)
      | ((with_reducible refine (num.mul_is a0 a1 m _ i0.out i1.out jM hm.out).mono ?_); rintro e w' ⟨rfl, rfl⟩)
      | ((with_reducible refine (num.mul_over a0 a1 _ i0.out i1.out (hm.out ▸ jM)).mono ?_); rintro e w' ⟨rfl, rfl⟩)
      | ((with_reducible refine (num.mul_is a1 a0 m _ i1.out i0.out jM hm'.out).mono ?_); rintro e w' ⟨rfl, rfl⟩)
      | ((with_reducible refine (num.mul_over a1 a0 _ i1.out i0.out (hm'.out ▸ jM)).mono ?_); rintro e w' ⟨rfl, rfl⟩))
    go_ret
    exact ⟨rfl, hg⟩

set_option maxRecDepth 100000 in
theorem lifted (os : Os) (started : os.Started) (H : Type) (enc : TypeId × Value → H) :
    ReturnsInHanded {} Try.checked os 4 .any (Rows.numBackSpec.pre6 enc Try.prog Try.f4 Rows.numBackRow.domain false) (Rows.numBackSpec.post enc Try.prog Try.f4 false true false false) := by
  refine returnsInHanded_of_change (C := Try.checked) own started (by kernel_rfl) Try.func4
    (ChangeSpec.witness6 (enc := enc) (C := Try.checked) false ⟨#[], #[.int .i64 0, .int .i64 0], []⟩ 8 (by kernel_rfl) (by kernel_rfl) (by kernel_rfl) (by kernel_rfl)) ?_
  intro W base args ds gs before hval0 hW hcnd _
  have hval : ∀ (j : Nat) t v, Try.f4.params[j]? = some t → args[j]? = some v → Value.okWide Try.prog W .any base t v := hval0
  have hW' := hW
  obtain ⟨p, q, hA0, hV, rfl, hfz, hnd⟩ := hW
  have hA : DataW.TrodAll enc Try.prog W 0 (fun _ => true) true Try.f4.params.toList args.toList ds p := hA0
  rw [Try.params4] at hA hval
  obtain ⟨v0, vs0, d0, ds0, p0, q0, hargs, rfl, rfl, h0, r0⟩ := trodAll_cons hA
  obtain ⟨v1, vs1, d1, ds1, p1, q1, rfl, rfl, rfl, h1, r1⟩ := trodAll_cons r0
  obtain ⟨rfl, rfl, rfl⟩ := trodAll_nil r1
  obtain rfl : args = #[v0, v1] := by cases args; simp_all
  obtain ⟨rfl, rfl⟩ := trodVars_none hV
  obtain ⟨a0, rfl, rfl, rfl, w0⟩ := open_int Try.underlying2 (hval 0 2 v0 rfl rfl) h0
  obtain ⟨a1, rfl, rfl, rfl, w1⟩ := open_int Try.underlying2 (hval 1 2 v1 rfl rfl) h1
  clear hA0 hval0
  refine (walk a0 a1 w0 w1 W).mono fun e W' ⟨he, hg⟩ => ?_
  subst he
  exact ⟨_, rfl, _, _, _, [], _, [], hW', (trodAll_cons_mk (shut_bool Try.underlying4 _) trodAll_mk0), (trodAll_cons_mk (shut_int Try.underlying2 w0) (trodAll_cons_mk (shut_int Try.underlying2 w1) trodAll_mk0)), rfl, hg.frame _, fun h => by cases h⟩

theorem over : Rows.numBackRow.holds Try.pinned (OpenSpec.ofChange Rows.numBackSpec) :=
  OpenClaim.holds_of_wide 4 Try.f4 rfl rfl rfl rfl rfl rfl rfl ⟨rfl, rfl, rfl, rfl, rfl⟩ rfl rfl rfl rfl rfl (by kernel_rfl) Try.func4 (by kernel_rfl)
    (of_decide_eq_true (by kernel_rfl)) (by unfold Func.isWrapper; first | (rw [if_pos (by decide +kernel)]; kernel_rfl) | (rw [if_neg (by decide +kernel)]; exact ⟨rfl, rfl⟩))
    (fun os started H enc _ => lifted os started H enc)

theorem proved : Rows.NumBackSaid :=
  over
#print axioms proved
end Go.Proofs.Ytcbnmdkjlffogaa.numBack
