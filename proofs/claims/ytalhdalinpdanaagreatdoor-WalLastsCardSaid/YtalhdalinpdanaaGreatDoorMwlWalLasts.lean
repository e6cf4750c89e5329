/-
  PROVED: the law WalLasts answers true at every input, and leaves what it was given as it was.
  CONDITIONS: none.
-/
import Derived.Test.YtalhdalinpdanaaGreatDoorRows
import Derived.Test.YtalhdalinpdanaaGreatDoorCards
import Derived.Test.YtalhdalinpdanaaGreatDoorTie
import Derived.SevenTiedAt
import Derived.WalkKit
import Derived.ProofKit
import Derived.OpenShut
import Derived.ShutString
import Derived.ChangeOld
import Derived.Below
import Derived.Test.YtalhdalinpdanaaGreatDoorMwl04
import Derived.Test.YtalhdalinpdanaaGreatDoorMwl37
import Derived.Test.YtalhdalinpdanaaGreatDoorMwl25
import Derived.Test.YtalhdalinpdanaaGreatDoorMwl49
set_option linter.unusedVariables false
set_option linter.unusedSimpArgs false
namespace Go.Proofs.YtalhdalinpdanaaGreatDoor.walLasts
set_option maxRecDepth 20000
open Go.ChangeShapes Go.WideShapes Go.ChangeAt Go.RowKit
open Go.ChangeMaps (open_string shut_string)
open Go.Proofs.YtalhdalinpdanaaGreatDoor Go.Proofs.YtalhdalinpdanaaGreatDoor.wal Go.Proofs.YtalhdalinpdanaaGreatDoor.disk
theorem own : ownKnob Tryz.prog.godebug = none := by kernel_rfl
theorem laidOut : laidOutB Tryz.prog = true := by kernel_rfl
theorem walk (p0 : Option Addr) (n0 c0 : Nat) (x0 : List Nat) (p1 : Option Addr) (n1 c1 : Nat) (x1 : List Nat) (p2 : Option Addr) (n2 c2 : Nat) (x2 : List Int) (a3 : Int) (w : World) (w0 : rdBytes w (Lt w.heap.size) [.slice p0 n0 c0] x0) (w1 : rdBytes w (Lt w.heap.size) [.slice p1 n1 c1] x1) (w2 : (rdInts .i64) w (Lt w.heap.size) [.slice p2 n2 c2] x2) (w3 : (Lit.int .u16 a3).wf = true) (ht : TabW w) (he : ErrVar w) :
  Calls Tryz.prog 6 #[.slice p0 n0 c0, .slice p1 n1 c1, .slice p2 n2 c2, .int .u16 a3] w fun e w' => e = .returned (.bool true) ∧ Below w.heap.size w w' := by
 obtain ⟨A0, m0, q0, e0, hx0, hl0, hc0, hm0⟩ := w0
 obtain ⟨rfl, rfl, rfl⟩ : p0 = A0 ∧ n0 = m0 ∧ c0 = q0 := by simpa using e0
 subst hl0
 obtain ⟨A1, m1, q1, e1, hx1, hl1, hc1, hm1⟩ := w1
 obtain ⟨rfl, rfl, rfl⟩ : p1 = A1 ∧ n1 = m1 ∧ c1 = q1 := by simpa using e1
 subst hl1
 obtain ⟨A2, m2, q2, e2, hx2, hl2, hc2, hm2⟩ := w2
 obtain ⟨rfl, rfl, rfl⟩ : p2 = A2 ∧ n2 = m2 ∧ c2 = q2 := by simpa using e2
 subst hl2
 have hwk3 := w3
 simp [Lit.wf, IntKind.min, IntKind.max, IntKind.signed, IntKind.bits] at hwk3
 obtain ⟨k3, rfl⟩ : ∃ k : Nat, a3 = (k : Int) := ⟨a3.toNat, by omega⟩
 have := walk0 p0 c0 _ p1 c1 _ p2 c2 x2 k3 w (elems_u8 hx0) (elems_u8 hx1) hx2 hc2 hm2 (by omega) ht he
 rw [toI_len, toI_len] at this
 exact this
set_option maxRecDepth 100000 in
theorem lifted (os : Os) (started : os.Started) (H : Type) (enc : TypeId × Value → H) :
  ReturnsInHanded {} Tryz.checked os 6 .any (fun w args => (Rows.walLastsSpec.pre enc Tryz.prog Tryz.f6 Rows.walLastsRow.domain false w args ∧ laidMet Tryz.prog laidL w) ∧ sizedMet enc Tryz.prog Tryz.f6 (OpenSpec.ofChange Rows.walLastsSpec) false w args) (Rows.walLastsSpec.post enc Tryz.prog Tryz.f6 false true false false) := by
 refine returnsInHanded_of_change_and (C := Tryz.checked) (X := fun w _ => laidMet Tryz.prog laidL w) (fun _ _ _ hh h => h.of_heap hh) own started (by kernel_rfl) Tryz.func6
  (ChangeSpec.witness_at (enc := enc) (C := Tryz.checked) (os := os) (X := fun w _ => laidMet Tryz.prog laidL w) false (laidWorld os) #[.slice none 0 0, .slice none 0 0, .slice none 0 0, .int .u16 0] 8 rfl (by kernel_rfl) (by kernel_rfl) (by kernel_rfl) (by kernel_rfl) (by kernel_rfl) (laidWorld_met os _)) ?_
 intro W base args ds gs before hval0 hW hcnd _ hL _
 have hval : ∀ (j : Nat) t v, Tryz.f6.params[j]? = some t → args[j]? = some v → Value.okWide Tryz.prog W .any base t v := hval0
 have hW' := hW
 obtain ⟨p, q, hA0, hV, rfl, hfz, hnd⟩ := hW
 have hA : DataW.TrodAll enc Tryz.prog W 0 (fun _ => true) true Tryz.f6.params.toList args.toList ds p := hA0
 rw [Tryz.params6] at hA hval
 obtain ⟨v0, vs0, d0, ds0, p0_, q0, hargs, rfl, rfl, h0, r0⟩ := trodAll_cons hA
 obtain ⟨v1, vs1, d1, ds1, p1_, q1, rfl, rfl, rfl, h1, r1⟩ := trodAll_cons r0
 obtain ⟨v2, vs2, d2, ds2, p2_, q2, rfl, rfl, rfl, h2, r2⟩ := trodAll_cons r1
 obtain ⟨v3, vs3, d3, ds3, p3_, q3, rfl, rfl, rfl, h3, r3⟩ := trodAll_cons r2
 obtain ⟨rfl, rfl, rfl⟩ := trodAll_nil r3
 obtain rfl : args = #[v0, v1, v2, v3] := by cases args; simp_all
 obtain ⟨rfl, rfl⟩ := trodVars_none hV
 obtain ⟨p0, n0, c0, rfl⟩ := okWide_slice Tryz.underlying62 (hval 0 62 v0 rfl rfl)
 have k0 := h0
 have lt0 : ∀ x ∈ p0_, x.block < W.heap.size := by obtain ⟨m, hm⟩ := k0; exact DataW.trod_lt m _ _ _ hm
 obtain ⟨x0, w0⟩ := of_arg (of_bytes Tryz.underlying62 Tryz.underlying5 (by kernel_rfl)) k0
 obtain ⟨p1, n1, c1, rfl⟩ := okWide_slice Tryz.underlying62 (hval 1 62 v1 rfl rfl)
 have k1 := h1
 have lt1 : ∀ x ∈ p1_, x.block < W.heap.size := by obtain ⟨m, hm⟩ := k1; exact DataW.trod_lt m _ _ _ hm
 obtain ⟨x1, w1⟩ := of_arg (of_bytes Tryz.underlying62 Tryz.underlying5 (by kernel_rfl)) k1
 obtain ⟨p2, n2, c2, rfl⟩ := okWide_slice Tryz.underlying59 (hval 2 59 v2 rfl rfl)
 have k2 := h2
 have lt2 : ∀ x ∈ p2_, x.block < W.heap.size := by obtain ⟨m, hm⟩ := k2; exact DataW.trod_lt m _ _ _ hm
 obtain ⟨x2, w2⟩ := of_arg (of_ints Tryz.underlying59 Tryz.underlying3 (by kernel_rfl)) k2
 obtain ⟨a3, rfl, rfl, rfl, w3⟩ := open_int Tryz.underlying63 (hval 3 63 v3 rfl rfl) h3
 clear hA0 hval0
 refine (walk p0 n0 c0 x0 p1 n1 c1 x1 p2 n2 c2 x2 a3 W w0 w1 w2 w3 (tab_of hL) (ev_of hL)).mono fun e W' ⟨he, bel⟩ => ?_
 subst he
 exact ⟨_, rfl, _, _, _, [], _, [], hW', trodAll_mk1 (shut_bool Tryz.underlying4 _), (trodAll_cons_mk (Below.trod laidOut (by kernel_rfl) (of_decide_eq_true (by kernel_rfl)) k0 bel lt0) (trodAll_cons_mk (Below.trod laidOut (by kernel_rfl) (of_decide_eq_true (by kernel_rfl)) k1 bel lt1) (trodAll_cons_mk (Below.trod laidOut (by kernel_rfl) (of_decide_eq_true (by kernel_rfl)) k2 bel lt2) (trodAll_cons_mk (shut_int Tryz.underlying63 w3) trodAll_mk0)))), rfl, bel.frame _, fun h => by cases h⟩
theorem over : Rows.walLastsRow.holds Tryz.pinned (OpenSpec.ofChange Rows.walLastsSpec) :=
 OpenClaim.holds_of_wide 6 Tryz.f6 rfl rfl rfl rfl rfl rfl rfl ⟨rfl, rfl, rfl, rfl, rfl⟩ rfl rfl rfl rfl rfl (by kernel_rfl) Tryz.func6 (by kernel_rfl)
  (of_decide_eq_true (by kernel_rfl)) (by unfold Func.isWrapper; first | (rw [if_pos (by decide +kernel)]; kernel_rfl) | (rw [if_neg (by decide +kernel)]; exact ⟨rfl, rfl⟩))
  (fun os started H enc _ => lifted os started H enc)
theorem stands : (#[62, 62, 59, 63] : Array TypeId).toList.all (fun t => !Tryz.prog.wantsStandIn t) = true := by kernel_rfl
theorem proved : Rows.WalLastsCardSaid :=
 Claim7.holds_tied_plain_at .later [] [.data, .data, .data, .sentinel, .sentinel] true (true, "bffce2084e64c89fdb8d03069c41890e2c35e26d29b7c35a5ad9c5fd8878d9ca") true
  over (fun _ h => by cases h) (by kernel_rfl) (fun _ h => by cases h) walLasts_row_tie rfl ⟨rfl, rfl⟩ (by kernel_rfl) rfl
  (fun f fn hf hfn => by
   obtain rfl : f = 6 := Option.some.inj ((show Tryz.prog.funcNamed "snaffle/snafflelaw12.WalLasts" = some 6 by kernel_rfl).symm.trans hf) |>.symm
   obtain rfl : fn = Tryz.f6 := (Option.some.inj (Tryz.func6.symm.trans hfn)).symm
   exact ⟨by kernel_rfl, fun j t ht => by
    rw [Tryz.params6] at ht
    have hm : t ∈ (#[62, 62, 59, 63] : Array TypeId).toList := List.mem_of_getElem? (i := j) (by simpa using ht)
    have := List.all_eq_true.1 stands t hm
    exact (show Tryz.prog.wantsStandIn t = false by simpa using this)⟩)
  (by kernel_rfl)
#print axioms proved
end Go.Proofs.YtalhdalinpdanaaGreatDoor.walLasts
