/-
  PROVED: the law BookRight answers true at every input, and leaves what it was given as it was.
  CONDITIONS: none.
-/
import Derived.Test.YtbeimapldejgmaaGreatRows
import Derived.WalkKit
import Derived.ProofKit
import Derived.OpenShut
import Derived.ShutString
import Derived.ChangeOld
import Derived.Below
import Derived.Test.YtbeimapldejgmaaGreatMB04
import Derived.Test.YtbeimapldejgmaaGreatMB34
import Derived.Test.YtbeimapldejgmaaGreatMB36
import Derived.Test.YtbeimapldejgmaaGreatMB20
import Derived.Test.YtbeimapldejgmaaGreatMB46
import Derived.Test.YtbeimapldejgmaaGreatMB47
import Derived.Test.YtbeimapldejgmaaGreatMB29
import Derived.Test.YtbeimapldejgmaaGreatMB48
import Derived.Test.YtbeimapldejgmaaGreatMB49
import Derived.Test.YtbeimapldejgmaaGreatMB50
import Derived.Test.YtbeimapldejgmaaGreatMB51
import Derived.Test.YtbeimapldejgmaaGreatMB52
import Derived.Test.YtbeimapldejgmaaGreatMB53
set_option linter.unusedVariables false
set_option linter.unusedSimpArgs false
namespace Go.Proofs.YtbeimapldejgmaaGreat.bookRight
open Go.ChangeShapes Go.WideShapes Go.ChangeAt Go.RowKit
open Go.ChangeMaps (open_string shut_string)
open Go.Proofs.YtbeimapldejgmaaGreat Go.Proofs.YtbeimapldejgmaaGreat.book
open Go.Proofs.YtbeimapldejgmaaGreat.order (Or open_ worth oz)
open Go.Proofs.YtbeimapldejgmaaGreat.cell (Ce Ex)
open Go.Proofs.YtbeimapldejgmaaGreat.rec (Rc)
theorem own : ownKnob Tryz.prog.godebug = none := by kernel_rfl
theorem laidOut : laidOutB Tryz.prog = true := by kernel_rfl
-- VX BEGINS
theorem walk0 (v : Sv) (s : St) (r : Rc) (a y : Int) (l : Ex) (c : Int) (w : World) (h : InS w (Lt w.heap.size) v s) (hr : r.fine) (ha : frame.inR a) (hy : frame.inR y) (hl : l.fine) (hc : frame.inR c) : Calls Tryz.prog 3 #[.agg (stc v s), .agg (rec.rc r), .int .i64 a, .int .i64 y, .agg (cell.xc l), .int .i64 c] w fun e w' => e = .returned (.bool true) ∧ Below w.heap.size w w' := by
 by_cases hN : NewOk a y l c
 ·exact (by cases hR : right s with
  | true => exact walk11 v s r a y l c w h hr ha hy hl hc hR hN
  | false => exact walk01 v s r a y l c w h hr ha hy hl hc hR hN)
 by_cases h0 : a < 0
 ·exact (by cases hR : right s with
  | true => exact walk107 v s r a y l c w h hr ha hy hl hc hR hN h0
  | false => exact walk007 v s r a y l c w h hr ha hy hl hc hR hN h0)
 by_cases h1 : a < 1
 ·have h0 : 0 ≤ a := by omega
  exact (by cases hR : right s with
  | true => exact walk101 v s r a y l c w h hr ha hy hl hc hR hN h1 h0
  | false => exact walk001 v s r a y l c w h hr ha hy hl hc hR hN h1 h0)
 by_cases h2 : 8 < a
 ·exact (by cases hR : right s with
  | true => exact walk102 v s r a y l c w h hr ha hy hl hc hR hN h2
  | false => exact walk002 v s r a y l c w h hr ha hy hl hc hR hN h2)
 have hA : 1 ≤ a ∧ a ≤ 8 := by omega
 by_cases h3 : y < 1
 ·exact (by cases hR : right s with
  | true => exact walk103 v s r a y l c w h hr ha hy hl hc hR hN hA h3
  | false => exact walk003 v s r a y l c w h hr ha hy hl hc hR hN hA h3)
 by_cases h4 : 8 < y
 ·exact (by cases hR : right s with
  | true => exact walk104 v s r a y l c w h hr ha hy hl hc hR hN hA h4
  | false => exact walk004 v s r a y l c w h hr ha hy hl hc hR hN hA h4)
 have hY : 1 ≤ y ∧ y ≤ 8 := by omega
 cases h5 : limit.right l with
 | false => exact (by cases hR : right s with
  | true => exact walk105 v s r a y l c w h hr ha hy hl hc hR hN hA hY h5
  | false => exact walk005 v s r a y l c w h hr ha hy hl hc hR hN hA hY h5)
 | true =>
  have h6 : c < 0 := Int.not_le.1 (fun e => hN ⟨hA.1, hA.2, hY.1, hY.2, h5, e⟩)
  exact (by cases hR : right s with
  | true => exact walk106 v s r a y l c w h hr ha hy hl hc hR hN hA hY h5 h6
  | false => exact walk006 v s r a y l c w h hr ha hy hl hc hR hN hA hY h5 h6)
-- VX ENDS
theorem walk (cs0 : Array Value) (x0 : StateD) (cs1 : Array Value) (x1 : RecD) (a2 : Int) (a3 : Int) (cs4 : Array Value) (x4 : ExpoD) (a5 : Int) (w : World) (w0 : rdState w (Lt w.heap.size) cs0.toList x0) (w1 : rdRec w (Lt w.heap.size) cs1.toList x1) (w2 : (Lit.int .i64 a2).wf = true) (w3 : (Lit.int .i64 a3).wf = true) (w4 : rdExpo w (Lt w.heap.size) cs4.toList x4) (w5 : (Lit.int .i64 a5).wf = true) :
  Calls Tryz.prog 3 #[.agg cs0, .agg cs1, .int .i64 a2, .int .i64 a3, .agg cs4, .int .i64 a5] w fun e w' => e = .returned (.bool true) ∧ Below w.heap.size w w' := by
 obtain ⟨v0, e0, h0⟩ := w0
 obtain rfl : cs0 = stc v0 x0 := by apply Array.toList_inj.1; exact e0
 obtain rfl : cs1 = rec.rc x1 := by apply Array.toList_inj.1; exact w1.1
 obtain rfl : cs4 = cell.xc x4 := by apply Array.toList_inj.1; exact w4.1
 exact walk0 v0 x0 x1 a2 a3 x4 a5 w h0 w1.2 (i64_in w2) (i64_in w3) w4.2 (i64_in w5)
set_option maxRecDepth 100000 in
theorem lifted (os : Os) (started : os.Started) (H : Type) (enc : TypeId × Value → H) :
  ReturnsInHanded {} Tryz.checked os 3 .any (Rows.bookRightSpec.pre6 enc Tryz.prog Tryz.f3 Rows.bookRightRow.domain false) (Rows.bookRightSpec.post enc Tryz.prog Tryz.f3 false true false false) := by
 refine returnsInHanded_of_change (C := Tryz.checked) own started (by kernel_rfl) Tryz.func3
  (ChangeSpec.witness6 (enc := enc) (C := Tryz.checked) false ⟨#[], #[.agg #[.int .i64 0, .int .i64 0, .slice none 0 0, .slice none 0 0, .slice none 0 0, .slice none 0 0, .bool false, .int .i64 0, .int .i64 0, .int .i64 0], .agg #[.int .i64 0, .int .i64 0, .int .i64 0, .int .i64 0, .int .i64 0, .int .i64 0, .int .i64 0, .int .i64 0, .int .i64 0, .int .i64 0, .bool false, .int .i64 0, .int .i64 0], .int .i64 0, .int .i64 0, .agg #[.int .i64 0, .int .i64 0, .int .i64 0], .int .i64 0], []⟩ 8 (by kernel_rfl) (by kernel_rfl) (by kernel_rfl) (by kernel_rfl)) ?_
 intro W base args ds gs before hval0 hW hcnd _
 have hval : ∀ (j : Nat) t v, Tryz.f3.params[j]? = some t → args[j]? = some v → Value.okWide Tryz.prog W .any base t v := hval0
 have hW' := hW
 obtain ⟨p, q, hA0, hV, rfl, hfz, hnd⟩ := hW
 have hA : DataW.TrodAll enc Tryz.prog W 0 (fun _ => true) true Tryz.f3.params.toList args.toList ds p := hA0
 rw [Tryz.params3] at hA hval
 obtain ⟨v0, vs0, d0, ds0, p0_, q0, hargs, rfl, rfl, h0, r0⟩ := trodAll_cons hA
 obtain ⟨v1, vs1, d1, ds1, p1_, q1, rfl, rfl, rfl, h1, r1⟩ := trodAll_cons r0
 obtain ⟨v2, vs2, d2, ds2, p2_, q2, rfl, rfl, rfl, h2, r2⟩ := trodAll_cons r1
 obtain ⟨v3, vs3, d3, ds3, p3_, q3, rfl, rfl, rfl, h3, r3⟩ := trodAll_cons r2
 obtain ⟨v4, vs4, d4, ds4, p4_, q4, rfl, rfl, rfl, h4, r4⟩ := trodAll_cons r3
 obtain ⟨v5, vs5, d5, ds5, p5_, q5, rfl, rfl, rfl, h5, r5⟩ := trodAll_cons r4
 obtain ⟨rfl, rfl, rfl⟩ := trodAll_nil r5
 obtain rfl : args = #[v0, v1, v2, v3, v4, v5] := by cases args; simp_all
 obtain ⟨rfl, rfl⟩ := trodVars_none hV
 obtain ⟨cs0, rfl, hsz0⟩ := okWide_struct Tryz.underlying27 (hval 0 27 v0 rfl rfl)
 have k0 := h0
 have lt0 : ∀ x ∈ p0_, x.block < W.heap.size := by obtain ⟨m, hm⟩ := k0; exact DataW.trod_lt m _ _ _ hm
 obtain ⟨x0, w0⟩ := of_arg of_state k0
 obtain ⟨cs1, rfl, hsz1⟩ := okWide_struct Tryz.underlying29 (hval 1 29 v1 rfl rfl)
 have k1 := h1
 have lt1 : ∀ x ∈ p1_, x.block < W.heap.size := by obtain ⟨m, hm⟩ := k1; exact DataW.trod_lt m _ _ _ hm
 obtain ⟨x1, w1⟩ := of_arg of_rec k1
 obtain ⟨a2, rfl, rfl, rfl, w2⟩ := open_int Tryz.underlying3 (hval 2 3 v2 rfl rfl) h2
 obtain ⟨a3, rfl, rfl, rfl, w3⟩ := open_int Tryz.underlying3 (hval 3 3 v3 rfl rfl) h3
 obtain ⟨cs4, rfl, hsz4⟩ := okWide_struct Tryz.underlying31 (hval 4 31 v4 rfl rfl)
 have k4 := h4
 have lt4 : ∀ x ∈ p4_, x.block < W.heap.size := by obtain ⟨m, hm⟩ := k4; exact DataW.trod_lt m _ _ _ hm
 obtain ⟨x4, w4⟩ := of_arg of_expo k4
 obtain ⟨a5, rfl, rfl, rfl, w5⟩ := open_int Tryz.underlying2 (hval 5 2 v5 rfl rfl) h5
 clear hA0 hval0
 refine (walk cs0 x0 cs1 x1 a2 a3 cs4 x4 a5 W w0 w1 w2 w3 w4 w5).mono fun e W' ⟨he, bel⟩ => ?_
 subst he
 exact ⟨_, rfl, _, _, _, [], _, [], hW', trodAll_mk1 (shut_bool Tryz.underlying4 _), (trodAll_cons_mk (Below.trod laidOut (by kernel_rfl) (of_decide_eq_true (by kernel_rfl)) k0 bel lt0) (trodAll_cons_mk (Below.trod laidOut (by kernel_rfl) (of_decide_eq_true (by kernel_rfl)) k1 bel lt1) (trodAll_cons_mk (shut_int Tryz.underlying3 w2) (trodAll_cons_mk (shut_int Tryz.underlying3 w3) (trodAll_cons_mk (Below.trod laidOut (by kernel_rfl) (of_decide_eq_true (by kernel_rfl)) k4 bel lt4) (trodAll_cons_mk (shut_int Tryz.underlying2 w5) trodAll_mk0)))))), rfl, bel.frame _, fun h => by cases h⟩
theorem over : Rows.bookRightRow.holds Tryz.pinned (OpenSpec.ofChange Rows.bookRightSpec) :=
 OpenClaim.holds_of_wide 3 Tryz.f3 rfl rfl rfl rfl rfl rfl rfl ⟨rfl, rfl, rfl, rfl, rfl⟩ rfl rfl rfl rfl rfl (by kernel_rfl) Tryz.func3 (by kernel_rfl)
  (of_decide_eq_true (by kernel_rfl)) (by unfold Func.isWrapper; first | (rw [if_pos (by decide +kernel)]; kernel_rfl) | (rw [if_neg (by decide +kernel)]; exact ⟨rfl, rfl⟩))
  (fun os started H enc _ => lifted os started H enc)
theorem proved : Rows.BookRightSaid := over
#print axioms proved
end Go.Proofs.YtbeimapldejgmaaGreat.bookRight
