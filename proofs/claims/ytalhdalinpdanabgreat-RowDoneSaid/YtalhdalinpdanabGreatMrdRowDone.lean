/-
  PROVED: the law RowDone answers true at every input, and leaves what it was given as it was.
  CONDITIONS: none.
-/
import Derived.Test.YtalhdalinpdanabGreatRows
import Derived.WalkKit
import Derived.ProofKit
import Derived.OpenShut
import Derived.ShutString
import Derived.ChangeOld
import Derived.Below
import Derived.Test.YtalhdalinpdanabGreatMrd04
import Derived.Test.YtalhdalinpdanabGreatMrd52
import Derived.Test.YtalhdalinpdanabGreatMrd53
import Derived.Test.YtalhdalinpdanabGreatMrd24
import Derived.Test.YtalhdalinpdanabGreatMrd26
set_option linter.unusedVariables false
set_option linter.unusedSimpArgs false
namespace Go.Proofs.YtalhdalinpdanabGreat.rowDone
open Go.ChangeShapes Go.WideShapes Go.ChangeAt Go.RowKit
open Go.ChangeMaps (open_string shut_string)
open Go.Proofs.YtalhdalinpdanabGreat Go.Proofs.YtalhdalinpdanabGreat.book
open Go.Proofs.YtalhdalinpdanabGreat.order (Or open_ worth oz)
open Go.Proofs.YtalhdalinpdanabGreat.cell (Ce Ex)
open Go.Proofs.YtalhdalinpdanabGreat.rec (Rc)
theorem own : ownKnob Tryz.prog.godebug = none := by kernel_rfl
theorem laidOut : laidOutB Tryz.prog = true := by kernel_rfl
-- VX BEGINS
set_option maxRecDepth 20000
open Go.Proofs.YtalhdalinpdanabGreat.row
theorem walk0 (v : Sv) (s : St) (r : Rc)  (w : World) (h : InS w (Lt w.heap.size) v s) (hrf : r.fine) : Calls Tryz.prog 6 #[.agg (stc v s), .agg (rec.rc r)] w fun e w' => e = .returned (.bool true) ∧ Below w.heap.size w w' :=
 have hlen := h.len
 calls_by (fn := Tryz.f6) (r := .bool true) (t := let k0 := toI (whole s); .c (.bool true) (.cs (short s) (.gs (right s) (.cm (Option Addr × Nat) (fun x => .tuple #[.slice x.1 (k0.length) x.2, .int .i64 0]) (fun x => [ownF (rdInt .u8) 1 5 x.1 (k0.length) x.2 k0]) (fun x3 => .k (.cm (Dat (fun w S v => InS w S v s) (Lt w.heap.size) w) (fun x => .tuple #[.agg (stc x.1.2.2 s), .int .i64 0]) (fun x => [poolF x.1.1 x.1.2.1]) (fun x4 => .cm (Dat (fun w S v => InS w S v ((do_ s r).1)) (Lt w.heap.size) w) (fun x => .tuple #[.agg (stc x.1.2.2 ((do_ s r).1)), .int .i64 ((do_ s r).2)]) (fun x => [poolF x.1.1 x.1.2.1]) (fun x5 => .cm (Dat (fun w S v => InS w S v ((do_ s r).1)) (fun k => Lt w.heap.size k ∨ x4.1.2.1 k) x4.1.1) (fun x => .tuple #[.agg (stc x.1.2.2 ((do_ s r).1)), .int .i64 ((do_ s r).2)]) (fun x => [poolF x.1.1 x.1.2.1]) (fun x6 => .k (.k (.m true (.k (.c (.bool true) .z)))))))))) (.cm (Option Addr × Nat) (fun x => .tuple #[.slice x.1 0 x.2, .int .i64 1]) (fun x => []) (fun x7 => .k (.c (.bool false) .z)))) .z)) (X :=
 let k0 := toI (whole s); let k1 := (.bool true : Value) = .bool true; let k2 : Array Value := #[.agg (stc v s)]; ∀ g0 : Nat, ∀ g1 : Nat, Gives Tryz.prog w [] 8 #[] (.bool true) ∧ Gives Tryz.prog w [] 9 k2 (.bool (short s)) ∧ ((short s) = true → ((right s) = true → GivesM Tryz.prog w [] 10 k2 (Option Addr × Nat) (fun x => .tuple #[.slice x.1 (k0.length) x.2, .int .i64 0]) (fun x => [ownF (rdInt .u8) 1 5 x.1 (k0.length) x.2 k0]) ∧ ∀ x3 : Option Addr × Nat, GivesM Tryz.prog w [ownF (rdInt .u8) 1 5 x3.1 (k0.length) x3.2 k0] 14 #[.slice x3.1 (k0.length) x3.2] (Dat (fun w S v => InS w S v s) (Lt w.heap.size) w) (fun x => .tuple #[.agg (stc x.1.2.2 s), .int .i64 0]) (fun x => [poolF x.1.1 x.1.2.1]) ∧ ∀ x4 : Dat (fun w S v => InS w S v s) (Lt w.heap.size) w, ∀ g2 : Nat, GivesM Tryz.prog w [poolF x4.1.1 x4.1.2.1, ownF (rdInt .u8) 1 5 x3.1 (k0.length) x3.2 k0] 19 #[.agg (stc v s), .agg (rec.rc r)] (Dat (fun w S v => InS w S v ((do_ s r).1)) (Lt w.heap.size) w) (fun x => .tuple #[.agg (stc x.1.2.2 ((do_ s r).1)), .int .i64 ((do_ s r).2)]) (fun x => [poolF x.1.1 x.1.2.1]) ∧ ∀ x5 : Dat (fun w S v => InS w S v ((do_ s r).1)) (Lt w.heap.size) w, ∀ g3 : Nat, GivesM Tryz.prog w [poolF x5.1.1 x5.1.2.1, poolF x4.1.1 x4.1.2.1, ownF (rdInt .u8) 1 5 x3.1 (k0.length) x3.2 k0] 19 #[.agg (stc x4.1.2.2 s), .agg (rec.rc r)] (Dat (fun w S v => InS w S v ((do_ s r).1)) (fun k => Lt w.heap.size k ∨ x4.1.2.1 k) x4.1.1) (fun x => .tuple #[.agg (stc x.1.2.2 ((do_ s r).1)), .int .i64 ((do_ s r).2)]) (fun x => [poolF x.1.1 x.1.2.1]) ∧ ∀ x6 : Dat (fun w S v => InS w S v ((do_ s r).1)) (fun k => Lt w.heap.size k ∨ x4.1.2.1 k) x4.1.1, ∀ g4 : Nat, (decide (((do_ s r).2) = ((do_ s r).2))) = true ∧ Gives Tryz.prog w [poolF x6.1.1 x6.1.2.1, poolF x5.1.1 x5.1.2.1, poolF x4.1.1 x4.1.2.1, ownF (rdInt .u8) 1 5 x3.1 (k0.length) x3.2 k0] 17 #[.agg (stc x5.1.2.2 ((do_ s r).1)), .agg (stc x6.1.2.2 ((do_ s r).1))] (.bool true) ∧ k1) ∧ ((right s) = false → GivesM Tryz.prog w [] 10 k2 (Option Addr × Nat) (fun x => .tuple #[.slice x.1 0 x.2, .int .i64 1]) (fun x => []) ∧ ∀ x7 : Option Addr × Nat, Gives Tryz.prog w [] 18 k2 (.bool false) ∧ k1)) ∧ ((short s) = false → k1)) Tryz.func6 (by kernel_rfl)
 (fun g0 => fun g1 => ⟨gives awake13, ⟨i_short, fun h1 => ⟨fun h2 => ⟨(c_enc_yes (all_lt h) h2), fun x3 => ⟨(g_decode (fixed_low (fun k hk => hk)) (own_dec (j := 0) rfl) (dec_back h2 (row.whole_of h))), fun x4 => fun g2 => ⟨(i_do (fixed_low (fun k hk => hk)) (fun w hw _ => h.below hw) hrf), fun x5 => fun g3 => ⟨(i_do (fixed_dat x4 (i := 1) rfl) (in_dat x4 (i := 1) rfl) hrf), fun x6 => fun g4 => ⟨by simp only [dq] <;> omega, ⟨(g_same (dat_lt x5 (fixed_low (fun k hk => hk)) (i := 1) rfl) (dat_lt x6 (fixed_dat x4 (i := 2) rfl) (i := 0) rfl) (decide_eq_true rfl)), rfl⟩⟩⟩⟩⟩⟩,
 fun h2 => ⟨(c_enc_no (all_lt h) h2), fun x7 => ⟨(c_right (all_lt h) h2), rfl⟩⟩⟩,
 fun h1 => rfl⟩⟩)
-- VX ENDS
theorem walk (cs0 : Array Value) (x0 : StateD) (cs1 : Array Value) (x1 : RecD) (w : World) (w0 : rdState w (Lt w.heap.size) cs0.toList x0) (w1 : rdRec w (Lt w.heap.size) cs1.toList x1) :
  Calls Tryz.prog 6 #[.agg cs0, .agg cs1] w fun e w' => e = .returned (.bool true) ∧ Below w.heap.size w w' := by
 obtain ⟨v0, e0, h0⟩ := w0
 obtain rfl : cs0 = stc v0 x0 := by apply Array.toList_inj.1; exact e0
 obtain rfl : cs1 = rec.rc x1 := by apply Array.toList_inj.1; exact w1.1
 exact walk0 v0 x0 x1 w h0 w1.2
set_option maxRecDepth 100000 in
theorem lifted (os : Os) (started : os.Started) (H : Type) (enc : TypeId × Value → H) :
  ReturnsInHanded {} Tryz.checked os 6 .any (Rows.rowDoneSpec.pre6 enc Tryz.prog Tryz.f6 Rows.rowDoneRow.domain false) (Rows.rowDoneSpec.post enc Tryz.prog Tryz.f6 false true false false) := by
 refine returnsInHanded_of_change (C := Tryz.checked) own started (by kernel_rfl) Tryz.func6
  (ChangeSpec.witness6 (enc := enc) (C := Tryz.checked) false ⟨#[], #[.agg #[.int .i64 0, .int .i64 0, .slice none 0 0, .slice none 0 0, .slice none 0 0, .slice none 0 0, .bool false, .int .i64 0, .int .i64 0, .int .i64 0], .agg #[.int .i64 0, .int .i64 0, .int .i64 0, .int .i64 0, .int .i64 0, .int .i64 0, .int .i64 0, .int .i64 0, .int .i64 0, .int .i64 0, .bool false, .int .i64 0, .int .i64 0]], []⟩ 8 (by kernel_rfl) (by kernel_rfl) (by kernel_rfl) (by kernel_rfl)) ?_
 intro W base args ds gs before hval0 hW hcnd _
 have hval : ∀ (j : Nat) t v, Tryz.f6.params[j]? = some t → args[j]? = some v → Value.okWide Tryz.prog W .any base t v := hval0
 have hW' := hW
 obtain ⟨p, q, hA0, hV, rfl, hfz, hnd⟩ := hW
 have hA : DataW.TrodAll enc Tryz.prog W 0 (fun _ => true) true Tryz.f6.params.toList args.toList ds p := hA0
 rw [Tryz.params6] at hA hval
 obtain ⟨v0, vs0, d0, ds0, p0_, q0, hargs, rfl, rfl, h0, r0⟩ := trodAll_cons hA
 obtain ⟨v1, vs1, d1, ds1, p1_, q1, rfl, rfl, rfl, h1, r1⟩ := trodAll_cons r0
 obtain ⟨rfl, rfl, rfl⟩ := trodAll_nil r1
 obtain rfl : args = #[v0, v1] := by cases args; simp_all
 obtain ⟨rfl, rfl⟩ := trodVars_none hV
 obtain ⟨cs0, rfl, hsz0⟩ := okWide_struct Tryz.underlying27 (hval 0 27 v0 rfl rfl)
 have k0 := h0
 have lt0 : ∀ x ∈ p0_, x.block < W.heap.size := by obtain ⟨m, hm⟩ := k0; exact DataW.trod_lt m _ _ _ hm
 obtain ⟨x0, w0⟩ := of_arg of_state k0
 obtain ⟨cs1, rfl, hsz1⟩ := okWide_struct Tryz.underlying46 (hval 1 46 v1 rfl rfl)
 have k1 := h1
 have lt1 : ∀ x ∈ p1_, x.block < W.heap.size := by obtain ⟨m, hm⟩ := k1; exact DataW.trod_lt m _ _ _ hm
 obtain ⟨x1, w1⟩ := of_arg of_rec k1
 clear hA0 hval0
 refine (walk cs0 x0 cs1 x1 W w0 w1).mono fun e W' ⟨he, bel⟩ => ?_
 subst he
 exact ⟨_, rfl, _, _, _, [], _, [], hW', trodAll_mk1 (shut_bool Tryz.underlying4 _), (trodAll_cons_mk (Below.trod laidOut (by kernel_rfl) (of_decide_eq_true (by kernel_rfl)) k0 bel lt0) (trodAll_cons_mk (Below.trod laidOut (by kernel_rfl) (of_decide_eq_true (by kernel_rfl)) k1 bel lt1) trodAll_mk0)), rfl, bel.frame _, fun h => by cases h⟩
theorem over : Rows.rowDoneRow.holds Tryz.pinned (OpenSpec.ofChange Rows.rowDoneSpec) :=
 OpenClaim.holds_of_wide 6 Tryz.f6 rfl rfl rfl rfl rfl rfl rfl ⟨rfl, rfl, rfl, rfl, rfl⟩ rfl rfl rfl rfl rfl (by kernel_rfl) Tryz.func6 (by kernel_rfl)
  (of_decide_eq_true (by kernel_rfl)) (by unfold Func.isWrapper; first | (rw [if_pos (by decide +kernel)]; kernel_rfl) | (rw [if_neg (by decide +kernel)]; exact ⟨rfl, rfl⟩))
  (fun os started H enc _ => lifted os started H enc)
theorem proved : Rows.RowDoneSaid := over
#print axioms proved
end Go.Proofs.YtalhdalinpdanabGreat.rowDone
