/-
  PROVED: the law WalRight answers true at every input, and leaves what it was given as it was.
  CONDITIONS: the tables and the error values that strconv and math/bits keep hold what the program's text lays in them (the card ties that to the text).
-/
import Derived.Test.YtepfmpmphcndjaaGreatDoorRows
import Derived.Test.YtepfmpmphcndjaaGreatDoorCards
import Derived.Test.YtepfmpmphcndjaaGreatDoorTie
import Derived.SevenTiedAt
import Derived.WalkKit
import Derived.ProofKit
import Derived.OpenShut
import Derived.ShutString
import Derived.ChangeOld
import Derived.Below
import Derived.Test.YtepfmpmphcndjaaGreatDoorMwr04
import Derived.Test.YtepfmpmphcndjaaGreatDoorMwr38
import Derived.Test.YtepfmpmphcndjaaGreatDoorMwr25
import Derived.Test.YtepfmpmphcndjaaGreatDoorMwr49
set_option linter.unusedVariables false
set_option linter.unusedSimpArgs false
namespace Go.Proofs.YtepfmpmphcndjaaGreatDoor.walRight
set_option maxRecDepth 20000
open Go.ChangeShapes Go.WideShapes Go.ChangeAt Go.RowKit
open Go.ChangeMaps (open_string shut_string)
open Go.Proofs.YtepfmpmphcndjaaGreatDoor Go.Proofs.YtepfmpmphcndjaaGreatDoor.wal Go.Proofs.YtepfmpmphcndjaaGreatDoor.disk
theorem own : ownKnob Tryz.prog.godebug = none := by kernel_rfl
theorem laidOut : laidOutB Tryz.prog = true := by kernel_rfl
theorem walk (cs0 : Array Value) (x0 : WalD) (cs1 : Array Value) (x1 : DiskD) (a2 : Int) (cs3 : Array Value) (x3 : List (Int)) (a4 : Int) (w : World) (w0 : rdWal w (Lt w.heap.size) cs0.toList x0) (w1 : rdDisk w (Lt w.heap.size) cs1.toList x1) (w2 : (Lit.int .i64 a2).wf = true) (w3 : (rdArr (rdInt .i64) 6 1) w (Lt w.heap.size) cs3.toList x3) (w4 : (Lit.int .i64 a4).wf = true) (ht : TabW w) (he : ErrVar w) :
  Calls Tryz.prog 3 #[.agg cs0, .agg cs1, .int .i64 a2, .agg cs3, .int .i64 a4] w fun e w' => e = .returned (.bool true) ∧ Below w.heap.size w w' := by
 obtain ⟨v0, e0, h0⟩ := w0
 obtain rfl : cs0 = jc v0 x0 := by apply Array.toList_inj.1; exact e0
 obtain ⟨v1, e1, h1⟩ := disk_in w1
 obtain rfl : cs1 = dc v1 x1 := by apply Array.toList_inj.1; exact e1
 obtain ⟨b0, b1, b2, b3, b4, b5, rfl, hb⟩ := six_ints w3
 exact walk0 v0 x0 v1 x1 a2 b0 b1 b2 b3 b4 b5 a4 w h0 h1 (inI_of_wf w2) hb (inI_of_wf w4) ht he
set_option maxRecDepth 100000 in
theorem lifted (os : Os) (started : os.Started) (H : Type) (enc : TypeId × Value → H) :
  ReturnsInHanded {} Tryz.checked os 3 .any (fun w args => (Rows.walRightSpec.pre enc Tryz.prog Tryz.f3 Rows.walRightRow.domain false w args ∧ laidMet Tryz.prog laidL w) ∧ sizedMet enc Tryz.prog Tryz.f3 (OpenSpec.ofChange Rows.walRightSpec) false w args) (Rows.walRightSpec.post enc Tryz.prog Tryz.f3 false true false false) := by
 refine returnsInHanded_of_change_and (C := Tryz.checked) (X := fun w _ => laidMet Tryz.prog laidL w) (fun _ _ _ hh h => h.of_heap hh) own started (by kernel_rfl) Tryz.func3
  (ChangeSpec.witness_at (enc := enc) (C := Tryz.checked) (os := os) (X := fun w _ => laidMet Tryz.prog laidL w) false (laidWorld os) #[.agg #[.int .i64 0, .int .i64 0, .int .i64 0, .int .i64 0, .int .i64 0, .slice none 0 0], .agg #[.slice none 0 0, .int .i64 0, .int .i64 0, .bool false], .int .i64 0, .agg #[.int .i64 0, .int .i64 0, .int .i64 0, .int .i64 0, .int .i64 0, .int .i64 0], .int .i64 0] 8 rfl (by kernel_rfl) (by kernel_rfl) (by kernel_rfl) (by kernel_rfl) (by kernel_rfl) (laidWorld_met os _)) ?_
 intro W base args ds gs before hval0 hW hcnd _ hL _
 have hval : ∀ (j : Nat) t v, Tryz.f3.params[j]? = some t → args[j]? = some v → Value.okWide Tryz.prog W .any base t v := hval0
 have hW' := hW
 obtain ⟨p, q, hA0, hV, rfl, hfz, hnd⟩ := hW
 have hA : DataW.TrodAll enc Tryz.prog W 0 (fun _ => true) true Tryz.f3.params.toList args.toList ds p := hA0
 rw [Tryz.params3] at hA hval
 obtain ⟨v0, vs0, d0, ds0, p0_, q0, hargs, rfl, rfl, h0, r0⟩ := trodAll_cons hA
 obtain ⟨v1, vs1, d1, ds1, p1_, q1, rfl, rfl, rfl, h1, r1⟩ := trodAll_cons r0
 obtain ⟨v2, vs2, d2, ds2, p2_, q2, rfl, rfl, rfl, h2, r2⟩ := trodAll_cons r1
 obtain ⟨v3, vs3, d3, ds3, p3_, q3, rfl, rfl, rfl, h3, r3⟩ := trodAll_cons r2
 obtain ⟨v4, vs4, d4, ds4, p4_, q4, rfl, rfl, rfl, h4, r4⟩ := trodAll_cons r3
 obtain ⟨rfl, rfl, rfl⟩ := trodAll_nil r4
 obtain rfl : args = #[v0, v1, v2, v3, v4] := by cases args; simp_all
 obtain ⟨rfl, rfl⟩ := trodVars_none hV
 obtain ⟨cs0, rfl, hsz0⟩ := okWide_struct Tryz.underlying24 (hval 0 24 v0 rfl rfl)
 have k0 := h0
 have lt0 : ∀ x ∈ p0_, x.block < W.heap.size := by obtain ⟨m, hm⟩ := k0; exact DataW.trod_lt m _ _ _ hm
 obtain ⟨x0, w0⟩ := of_arg of_wal k0
 obtain ⟨cs1, rfl, hsz1⟩ := okWide_struct Tryz.underlying27 (hval 1 27 v1 rfl rfl)
 have k1 := h1
 have lt1 : ∀ x ∈ p1_, x.block < W.heap.size := by obtain ⟨m, hm⟩ := k1; exact DataW.trod_lt m _ _ _ hm
 obtain ⟨x1, w1⟩ := of_arg of_disk k1
 obtain ⟨a2, rfl, rfl, rfl, w2⟩ := open_int Tryz.underlying3 (hval 2 3 v2 rfl rfl) h2
 obtain ⟨cs3, rfl, hsz3⟩ := okWide_array Tryz.underlying28 (hval 3 28 v3 rfl rfl)
 have k3 := h3
 have lt3 : ∀ x ∈ p3_, x.block < W.heap.size := by obtain ⟨m, hm⟩ := k3; exact DataW.trod_lt m _ _ _ hm
 obtain ⟨x3, w3⟩ := of_arg (of_arr (n := 6) (size := 1) (of_int Tryz.underlying2) Tryz.underlying28 (by kernel_rfl) (by kernel_rfl)) k3
 obtain ⟨a4, rfl, rfl, rfl, w4⟩ := open_int Tryz.underlying2 (hval 4 2 v4 rfl rfl) h4
 clear hA0 hval0
 refine (walk cs0 x0 cs1 x1 a2 cs3 x3 a4 W w0 w1 w2 w3 w4 (tab_of hL) (ev_of hL)).mono fun e W' ⟨he, bel⟩ => ?_
 subst he
 exact ⟨_, rfl, _, _, _, [], _, [], hW', trodAll_mk1 (shut_bool Tryz.underlying4 _), (trodAll_cons_mk (Below.trod laidOut (by kernel_rfl) (of_decide_eq_true (by kernel_rfl)) k0 bel lt0) (trodAll_cons_mk (Below.trod laidOut (by kernel_rfl) (of_decide_eq_true (by kernel_rfl)) k1 bel lt1) (trodAll_cons_mk (shut_int Tryz.underlying3 w2) (trodAll_cons_mk (Below.trod laidOut (by kernel_rfl) (of_decide_eq_true (by kernel_rfl)) k3 bel lt3) (trodAll_cons_mk (shut_int Tryz.underlying2 w4) trodAll_mk0))))), rfl, bel.frame _, fun h => by cases h⟩
theorem over : Rows.walRightRow.holds Tryz.pinned (OpenSpec.ofChange Rows.walRightSpec) :=
 OpenClaim.holds_of_wide 3 Tryz.f3 rfl rfl rfl rfl rfl rfl rfl ⟨rfl, rfl, rfl, rfl, rfl⟩ rfl rfl rfl rfl rfl (by kernel_rfl) Tryz.func3 (by kernel_rfl)
  (of_decide_eq_true (by kernel_rfl)) (by unfold Func.isWrapper; first | (rw [if_pos (by decide +kernel)]; kernel_rfl) | (rw [if_neg (by decide +kernel)]; exact ⟨rfl, rfl⟩))
  (fun os started H enc _ => lifted os started H enc)
theorem stands : (#[24, 27, 3, 28, 2] : Array TypeId).toList.all (fun t => !Tryz.prog.wantsStandIn t) = true := by kernel_rfl
theorem proved : Rows.WalRightCardSaid :=
 Claim7.holds_tied_plain_at .later [] [.data, .data, .data, .sentinel, .sentinel] true (true, "bffce2084e64c89fdb8d03069c41890e2c35e26d29b7c35a5ad9c5fd8878d9ca") true
  over (fun _ h => by cases h) (by kernel_rfl) (fun _ h => by cases h) walRight_row_tie rfl ⟨rfl, rfl⟩ (by kernel_rfl) rfl
  (fun f fn hf hfn => by
   obtain rfl : f = 3 := Option.some.inj ((show Tryz.prog.funcNamed "snaffle/snafflelaw12.WalRight" = some 3 by kernel_rfl).symm.trans hf) |>.symm
   obtain rfl : fn = Tryz.f3 := (Option.some.inj (Tryz.func3.symm.trans hfn)).symm
   exact ⟨by kernel_rfl, fun j t ht => by
    rw [Tryz.params3] at ht
    have hm : t ∈ (#[24, 27, 3, 28, 2] : Array TypeId).toList := List.mem_of_getElem? (i := j) (by simpa using ht)
    have := List.all_eq_true.1 stands t hm
    exact (show Tryz.prog.wantsStandIn t = false by simpa using this)⟩)
  (by kernel_rfl)
#print axioms proved
end Go.Proofs.YtepfmpmphcndjaaGreatDoor.walRight
