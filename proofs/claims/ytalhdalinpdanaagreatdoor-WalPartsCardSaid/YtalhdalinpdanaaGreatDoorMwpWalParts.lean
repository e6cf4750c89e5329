/-
  PROVED: the law WalParts answers true at every input, and leaves what it was given as it was.
  CONDITIONS: the tables and the error values that strconv and math/bits keep hold what the program's text lays in them (the card ties that to the text).
-/
import Derived.Test.YtalhdalinpdanaaGreatDoorRows
import Derived.Test.YtalhdalinpdanaaGreatDoorCards
import Derived.Test.YtalhdalinpdanaaGreatDoorTie
import Derived.SevenTiedAt
import Derived.WalkKit
import Derived.ProofKit
import Derived.OpenShut
import Derived.ShutString
import Derived.ChangeOld
import Derived.Below
import Derived.Test.YtalhdalinpdanaaGreatDoorMwp04
import Derived.Test.YtalhdalinpdanaaGreatDoorMwp40
import Derived.Test.YtalhdalinpdanaaGreatDoorMwp49
set_option linter.unusedVariables false
set_option linter.unusedSimpArgs false
namespace Go.Proofs.YtalhdalinpdanaaGreatDoor.walParts
set_option maxRecDepth 20000
open Go.ChangeShapes Go.WideShapes Go.ChangeAt Go.RowKit
open Go.ChangeMaps (open_string shut_string)
open Go.Proofs.YtalhdalinpdanaaGreatDoor Go.Proofs.YtalhdalinpdanaaGreatDoor.wal Go.Proofs.YtalhdalinpdanaaGreatDoor.disk
theorem own : ownKnob Tryz.prog.godebug = none := by kernel_rfl
theorem laidOut : laidOutB Tryz.prog = true := by kernel_rfl
theorem walk (p0 : Option Addr) (n0 c0 : Nat) (x0 : List (List (Int))) (p1 : Option Addr) (n1 c1 : Nat) (x1 : List (Bool)) (w : World) (w0 : (rdSlice (rdArr (rdInt .i64) 6 1) 6) w (Lt w.heap.size) [.slice p0 n0 c0] x0) (w1 : (rdSlice rdBool 1) w (Lt w.heap.size) [.slice p1 n1 c1] x1) (ht : TabW w) (he : ErrVar w) :
  Calls Tryz.prog 8 #[.slice p0 n0 c0, .slice p1 n1 c1] w fun e w' => e = .returned (.bool true) ∧ Below w.heap.size w w' := by
 obtain ⟨A0, m0, q0, e0, hx0, hl0, hc0, hm0⟩ := w0
 obtain ⟨rfl, rfl, rfl⟩ : p0 = A0 ∧ n0 = m0 ∧ c0 = q0 := by simpa using e0
 obtain ⟨A1, m1, q1, e1, hx1, hl1, hc1, hm1⟩ := w1
 obtain ⟨rfl, rfl, rfl⟩ : p1 = A1 ∧ n1 = m1 ∧ c1 = q1 := by simpa using e1
 subst hl0 hl1
 have := walk0 p0 c0 _ p1 c1 x1 w (sixes hx0) hx1 ht he
 rw [List.length_map] at this
 exact this
set_option maxRecDepth 100000 in
theorem lifted (os : Os) (started : os.Started) (H : Type) (enc : TypeId × Value → H) :
  ReturnsInHanded {} Tryz.checked os 8 .any (fun w args => (Rows.walPartsSpec.pre enc Tryz.prog Tryz.f8 Rows.walPartsRow.domain false w args ∧ laidMet Tryz.prog laidL w) ∧ sizedMet enc Tryz.prog Tryz.f8 (OpenSpec.ofChange Rows.walPartsSpec) false w args) (Rows.walPartsSpec.post enc Tryz.prog Tryz.f8 false true false false) := by
 refine returnsInHanded_of_change_and (C := Tryz.checked) (X := fun w _ => laidMet Tryz.prog laidL w) (fun _ _ _ hh h => h.of_heap hh) own started (by kernel_rfl) Tryz.func8
  (ChangeSpec.witness_at (enc := enc) (C := Tryz.checked) (os := os) (X := fun w _ => laidMet Tryz.prog laidL w) false (laidWorld os) #[.slice none 0 0, .slice none 0 0] 8 rfl (by kernel_rfl) (by kernel_rfl) (by kernel_rfl) (by kernel_rfl) (by kernel_rfl) (laidWorld_met os _)) ?_
 intro W base args ds gs before hval0 hW hcnd _ hL _
 have hval : ∀ (j : Nat) t v, Tryz.f8.params[j]? = some t → args[j]? = some v → Value.okWide Tryz.prog W .any base t v := hval0
 have hW' := hW
 obtain ⟨p, q, hA0, hV, rfl, hfz, hnd⟩ := hW
 have hA : DataW.TrodAll enc Tryz.prog W 0 (fun _ => true) true Tryz.f8.params.toList args.toList ds p := hA0
 rw [Tryz.params8] at hA hval
 obtain ⟨v0, vs0, d0, ds0, p0_, q0, hargs, rfl, rfl, h0, r0⟩ := trodAll_cons hA
 obtain ⟨v1, vs1, d1, ds1, p1_, q1, rfl, rfl, rfl, h1, r1⟩ := trodAll_cons r0
 obtain ⟨rfl, rfl, rfl⟩ := trodAll_nil r1
 obtain rfl : args = #[v0, v1] := by cases args; simp_all
 obtain ⟨rfl, rfl⟩ := trodVars_none hV
 obtain ⟨p0, n0, c0, rfl⟩ := okWide_slice Tryz.underlying68 (hval 0 68 v0 rfl rfl)
 have k0 := h0
 have lt0 : ∀ x ∈ p0_, x.block < W.heap.size := by obtain ⟨m, hm⟩ := k0; exact DataW.trod_lt m _ _ _ hm
 obtain ⟨x0, w0⟩ := of_arg (of_slice (size := 6) (of_arr (n := 6) (size := 1) (of_int Tryz.underlying2) Tryz.underlying28 (by kernel_rfl) (by kernel_rfl)) Tryz.underlying68 (by kernel_rfl) (by decide)) k0
 obtain ⟨p1, n1, c1, rfl⟩ := okWide_slice Tryz.underlying69 (hval 1 69 v1 rfl rfl)
 have k1 := h1
 have lt1 : ∀ x ∈ p1_, x.block < W.heap.size := by obtain ⟨m, hm⟩ := k1; exact DataW.trod_lt m _ _ _ hm
 obtain ⟨x1, w1⟩ := of_arg (of_slice (size := 1) (of_bool Tryz.underlying4) Tryz.underlying69 (by kernel_rfl) (by decide)) k1
 clear hA0 hval0
 refine (walk p0 n0 c0 x0 p1 n1 c1 x1 W w0 w1 (tab_of hL) (ev_of hL)).mono fun e W' ⟨he, bel⟩ => ?_
 subst he
 exact ⟨_, rfl, _, _, _, [], _, [], hW', trodAll_mk1 (shut_bool Tryz.underlying4 _), (trodAll_cons_mk (Below.trod laidOut (by kernel_rfl) (of_decide_eq_true (by kernel_rfl)) k0 bel lt0) (trodAll_cons_mk (Below.trod laidOut (by kernel_rfl) (of_decide_eq_true (by kernel_rfl)) k1 bel lt1) trodAll_mk0)), rfl, bel.frame _, fun h => by cases h⟩
theorem over : Rows.walPartsRow.holds Tryz.pinned (OpenSpec.ofChange Rows.walPartsSpec) :=
 OpenClaim.holds_of_wide 8 Tryz.f8 rfl rfl rfl rfl rfl rfl rfl ⟨rfl, rfl, rfl, rfl, rfl⟩ rfl rfl rfl rfl rfl (by kernel_rfl) Tryz.func8 (by kernel_rfl)
  (of_decide_eq_true (by kernel_rfl)) (by unfold Func.isWrapper; first | (rw [if_pos (by decide +kernel)]; kernel_rfl) | (rw [if_neg (by decide +kernel)]; exact ⟨rfl, rfl⟩))
  (fun os started H enc _ => lifted os started H enc)
theorem stands : (#[68, 69] : Array TypeId).toList.all (fun t => !Tryz.prog.wantsStandIn t) = true := by kernel_rfl
theorem proved : Rows.WalPartsCardSaid :=
 Claim7.holds_tied_plain_at .later [] [.data, .data, .data, .sentinel, .sentinel] true (true, "bffce2084e64c89fdb8d03069c41890e2c35e26d29b7c35a5ad9c5fd8878d9ca") true
  over (fun _ h => by cases h) (by kernel_rfl) (fun _ h => by cases h) walParts_row_tie rfl ⟨rfl, rfl⟩ (by kernel_rfl) rfl
  (fun f fn hf hfn => by
   obtain rfl : f = 8 := Option.some.inj ((show Tryz.prog.funcNamed "snaffle/snafflelaw12.WalParts" = some 8 by kernel_rfl).symm.trans hf) |>.symm
   obtain rfl : fn = Tryz.f8 := (Option.some.inj (Tryz.func8.symm.trans hfn)).symm
   exact ⟨by kernel_rfl, fun j t ht => by
    rw [Tryz.params8] at ht
    have hm : t ∈ (#[68, 69] : Array TypeId).toList := List.mem_of_getElem? (i := j) (by simpa using ht)
    have := List.all_eq_true.1 stands t hm
    exact (show Tryz.prog.wantsStandIn t = false by simpa using this)⟩)
  (by kernel_rfl)
#print axioms proved
end Go.Proofs.YtalhdalinpdanaaGreatDoor.walParts
