/-
  PROVED: the law RowBack answers true at every input, and leaves what it was given as it was.
  CONDITIONS: none.
-/
import Derived.Test.YtalhdalinpdanabGreatRows
import Derived.WalkKit
import Derived.ProofKit
import Derived.OpenShut
import Derived.ShutString
import Derived.ChangeOld
import Derived.Below
import Derived.Test.YtalhdalinpdanabGreatMrb04
import Derived.Test.YtalhdalinpdanabGreatMrb52
import Derived.Test.YtalhdalinpdanabGreatMrb53
import Derived.Test.YtalhdalinpdanabGreatMrb25
set_option linter.unusedVariables false
set_option linter.unusedSimpArgs false
namespace Go.Proofs.YtalhdalinpdanabGreat.rowBack
open Go.ChangeShapes Go.WideShapes Go.ChangeAt Go.RowKit
open Go.ChangeMaps (open_string shut_string)
open Go.Proofs.YtalhdalinpdanabGreat Go.Proofs.YtalhdalinpdanabGreat.book
open Go.Proofs.YtalhdalinpdanabGreat.order (Or open_ worth oz)
open Go.Proofs.YtalhdalinpdanabGreat.cell (Ce Ex)
open Go.Proofs.YtalhdalinpdanabGreat.rec (Rc)
theorem own : ownKnob Tryz.prog.godebug = none := by kernel_rfl
theorem laidOut : laidOutB Tryz.prog = true := by kernel_rfl
-- VX BEGINS
set_option maxRecDepth 20000
open Go.Proofs.YtalhdalinpdanabGreat.row
theorem el_of {w : World} {S : Nat → Prop} {A : Option Addr} {L : List Nat} (h : BysIn w S A L) : Elems (rdInt .u8) 1 w S A (toI L) := fun h0 => by
 obtain ⟨b, off, e, hS, hc⟩ := h.2 h0
 refine ⟨b, off, e, hS, fun j x hj => ⟨[.int .u8 x], rfl, fun i c hi => ?_, rfl, h.1 x (List.mem_of_getElem? hj)⟩⟩
 have hlt : j < (toI L).length := (List.getElem?_eq_some_iff.1 hj).1
 have := hc j hlt
 rw [List.getD_eq_getElem?_getD, hj] at this
 cases i with
 |zero => simp at hi; subst hi; simpa using this
 |succ i => simp at hi
theorem dec_err {L : List Nat} (h : ¬ (decV L).2 = 0) : (decV L).1 = zst := by
 by_cases h1 : MayBe L
 ·by_cases h2 : sm L = frame.le4 (crc.more 0 (txt L))
  ·by_cases h3 : right (rdV L) = true
   ·by_cases h4 : txt L = told (rdV L)
    ·rw [dec_yes h1 h2 h3 h4] at h; exact absurd rfl h
    ·rw [dec_no2 h1 h2 h4]
   ·rw [dec_no1 h1 h2 (by simpa using h3)]
  ·rw [dec_sum h1 h2]
 ·rw [dec_form h1]
theorem dec_ok {L : List Nat} (h : (decV L).2 = 0) : right (decV L).1 = true ∧ whole (decV L).1 = L := by
 by_cases h1 : MayBe L
 ·by_cases h2 : sm L = frame.le4 (crc.more 0 (txt L))
  ·by_cases h3 : right (rdV L) = true
   ·by_cases h4 : txt L = told (rdV L)
    ·rw [dec_yes h1 h2 h3 h4]
     refine ⟨h3, ?_⟩
     unfold whole
     rw [← h4, ← h2]
     exact List.take_append_drop _ _
    ·rw [dec_no2 h1 h2 h4] at h; exact absurd h (by decide)
   ·rw [dec_no1 h1 h2 (by simpa using h3)] at h; exact absurd h (by decide)
  ·rw [dec_sum h1 h2] at h; exact absurd h (by decide)
 ·rw [dec_form h1] at h; exact absurd h (by decide)
theorem zst_in {w : World} : InS w (Lt w.heap.size) zsv zst := ⟨fun h => absurd h (Nat.lt_irrefl 0), fun h => absurd h (Nat.lt_irrefl 0), fun h => absurd h (Nat.lt_irrefl 0), fun h => absurd h (Nat.lt_irrefl 0), ⟨Nat.le_refl _, Nat.zero_le _⟩, ⟨Nat.le_refl _, Nat.zero_le _⟩, ⟨Nat.le_refl _, Nat.zero_le _⟩, ⟨Nat.le_refl _, Nat.zero_le _⟩, ⟨zero_in, zero_in, zero_in, zero_in, zero_in⟩⟩
section
variable {P : Program} {w0 : World} {D : List Fact} {A : Option Addr} {n c : Nat} {L M : List Nat} {s t : St} {T : TypeId}
theorem own_str {src dst : TypeId} (hs : P.underlying src = some (.slice 5)) (he : P.underlying 5 = some (.int .u8)) (hd : P.underlying dst = some .string) {j : Nat} (h : D[j]? = some (ownF (rdInt .u8) 1 5 A (toI L).length c (toI L))) :
  Yields0 P w0 D (convert src dst (.slice A (toI L).length c)) (.string (strB L)) := fun w hw ha => run_bys_string (own_bys (w0 := w0) h w hw ha) (by simp [toI]) src _ dst hs he hd
theorem putB_lt {k : Nat} {l : List Int} : ∀ b ∈ putB k l, b < 256 := fun b hb => by
 unfold putB at hb
 obtain ⟨n, _, hb⟩ := List.mem_flatMap.1 hb
 exact frame.be_lt _ _ _ hb
theorem told_lt (s : St) : ∀ b ∈ told s, b < 256 := fun b hb => by
 rw [told_is] at hb
 simp only [t2, t1, List.mem_append, List.mem_flatMap] at hb
 rcases hb with ((hb | hb) | hb) | ⟨o, _, hb⟩ | ⟨o, _, hb⟩ | ⟨o, _, hb⟩ | hb
 ·simp at hb; omega
 ·exact putB_lt b hb
 ·exact putB_lt b hb
 ·simp only [ordB, List.mem_append] at hb
  rcases hb with ((hb | hb) | hb) | hb <;> exact putB_lt b hb
 ·exact putB_lt b hb
 ·exact putB_lt b hb
 ·exact putB_lt b hb
theorem whole_lt (s : St) : ∀ b ∈ whole s, b < 256 := fun b hb => by
 unfold whole at hb
 rcases List.mem_append.1 hb with hb | hb
 ·exact told_lt s b hb
 ·simp only [frame.le4, List.mem_cons, List.not_mem_nil, or_false] at hb
  omega
theorem str_same (h : right s = true) (hw : Whole s) (g : right t = true) (gw : Whole t) (ox oy : Operand) :
  Yields0 P w0 D (do eqGuard .eql T ox oy (.string (strB (whole s))) (.string (strB (whole t))); Go.binOp .eql T (.string (strB (whole s))) (.string (strB (whole t)))) (.bool (decide (s = t))) := by
 have e : decide (s = t) = decide (strB (whole s) = strB (whole t)) := decide_eq_decide.2 ⟨fun e => by rw [e], fun e => whole_inj h hw g gw ((strB_inj (whole_lt s) (whole_lt t)).1 e)⟩
 rw [e]; exact str_eql ox oy
theorem str_same_true (h : L = M) (ox oy : Operand) : Yields0 P w0 D (do eqGuard .eql T ox oy (.string (strB L)) (.string (strB M)); Go.binOp .eql T (.string (strB L)) (.string (strB M))) (.bool true) := by
 have := str_eql (P := P) (w0 := w0) (D := D) (T := T) (a := strB L) (b := strB M) ox oy
 rwa [decide_eq_true (by rw [h])] at this
end
theorem walk1 (v : Sv) (s : St) (u : Sv) (t : St) (p2 : Option Addr) (c2 : Nat) (L : List Nat)  (w : World) (h : InS w (Lt w.heap.size) v s) (g : InS w (Lt w.heap.size) u t) (hb : BysIn w (Lt w.heap.size) p2 L) (hlm : L.length ≤ 9223372036854775807) (hc : L.length ≤ c2) : Calls Tryz.prog 4 #[.agg (stc v s), .agg (stc u t), .slice p2 (toI L).length c2] w fun e w' => e = .returned (.bool true) ∧ Below w.heap.size w w' :=
 have hlen := h.len
 calls_by (fn := Tryz.f4) (r := .bool true) (t := let k6 := whole ((decV L).1); let k0 : (Option Addr × Nat) → List Fact := fun x => [ownF (rdInt .u8) 1 5 x.1 ((toI k6).length) x.2 (toI k6)]; let k1 : (Option Addr × Nat) → Value := fun x => .tuple #[.slice x.1 ((toI k6).length) x.2, .int .i64 0]; let k2 := Option Addr × Nat; let k3 : Value := .string (strB k6); let k9 := toI (whole t); let k4 := k9.length; let k5 : Value := .string (strB L); let k7 := decide (s = t); let k8 := toI (whole s); .c (.bool true) (.cs (short s) (.k (.cs (short t) (.k (.s .z (.gs (right s) (.cm k2 (fun x => .tuple #[.slice x.1 (k8.length) x.2, .int .i64 0]) (fun x => [ownF (rdInt .u8) 1 5 x.1 (k8.length) x.2 k8]) (fun x5 => .gs (right t) (.cm k2 (fun x => .tuple #[.slice x.1 k4 x.2, .int .i64 0]) (fun x => [ownF (rdInt .u8) 1 5 x.1 k4 x.2 k9]) (fun x7 => .k (.cm (Dat (fun w S v => InS w S v s) (Lt w.heap.size) w) (fun x => .tuple #[.agg (stc x.1.2.2 s), .int .i64 0]) (fun x => [poolF x.1.1 x.1.2.1]) (fun x8 => .k (.k (.c (.bool true) (.o [] (.k (.k (.x (.string (strB (whole s))) (.x (.string (strB (whole t))) (.xs k7 (.cs k7 (.k (.cm (Dat (fun w S v => InS w S v ((decV L).1)) (Lt w.heap.size) w) (fun x => .tuple #[.agg (stc x.1.2.2 ((decV L).1)), .int .i64 ((decV L).2)]) (fun x => [poolF x.1.1 x.1.2.1]) (fun x11 => .s (.c (.bool true) .z) (.cm k2 k1 k0 (fun x13 => .k (.k (.x k3 (.x k5 (.x (.bool true) .z))))))))) (.k .z)) (.cs k7 (.k .z) (.k (.cm (Dat (fun w S v => InS w S v ((decV L).1)) (Lt w.heap.size) w) (fun x => .tuple #[.agg (stc x.1.2.2 ((decV L).1)), .int .i64 ((decV L).2)]) (fun x => [poolF x.1.1 x.1.2.1]) (fun x15 => .s (.c (.bool true) .z) (.cm k2 k1 k0 (fun x17 => .k (.k (.x k3 (.x k5 (.x (.bool true) .z)))))))))))))))))))))) (.cm k2 (fun x => .tuple #[.slice x.1 0 x.2, .int .i64 1]) (fun x => []) (fun x18 => .k (.cm (Dat (fun w S v => InS w S v s) (Lt w.heap.size) w) (fun x => .tuple #[.agg (stc x.1.2.2 s), .int .i64 0]) (fun x => [poolF x.1.1 x.1.2.1]) (fun x19 => .k (.k (.c (.bool true) (.o [] (.k (.k (.cm (Dat (fun w S v => InS w S v ((decV L).1)) (Lt w.heap.size) w) (fun x => .tuple #[.agg (stc x.1.2.2 ((decV L).1)), .int .i64 ((decV L).2)]) (fun x => [poolF x.1.1 x.1.2.1]) (fun x20 => .s (.c (.bool true) .z) (.cm k2 k1 k0 (fun x22 => .k (.k (.x k3 (.x k5 (.x (.bool true) .z))))))))))))))))))) (.cm k2 (fun x => .tuple #[.slice x.1 0 x.2, .int .i64 1]) (fun x => []) (fun x23 => .gs (right t) (.cm k2 (fun x => .tuple #[.slice x.1 k4 x.2, .int .i64 0]) (fun x => [ownF (rdInt .u8) 1 5 x.1 k4 x.2 k9]) (fun x25 => .k (.cm (Dat (fun w S v => InS w S v ((decV L).1)) (Lt w.heap.size) w) (fun x => .tuple #[.agg (stc x.1.2.2 ((decV L).1)), .int .i64 ((decV L).2)]) (fun x => [poolF x.1.1 x.1.2.1]) (fun x26 => .s (.c (.bool true) .z) (.cm k2 k1 k0 (fun x28 => .k (.k (.x k3 (.x k5 (.x (.bool true) .z)))))))))) (.cm k2 (fun x => .tuple #[.slice x.1 0 x.2, .int .i64 1]) (fun x => []) (fun x29 => .k (.cm (Dat (fun w S v => InS w S v ((decV L).1)) (Lt w.heap.size) w) (fun x => .tuple #[.agg (stc x.1.2.2 ((decV L).1)), .int .i64 ((decV L).2)]) (fun x => [poolF x.1.1 x.1.2.1]) (fun x30 => .s (.c (.bool true) .z) (.cm k2 k1 k0 (fun x32 => .k (.k (.x k3 (.x k5 (.x (.bool true) .z))))))))))))))) (.k .z))) (.k (.k .z)))) (X :=
 let k0 := toI (whole ((decV L).1)); let k1 := toI (whole s); let k2 := toI (whole t); let k3 : Value := .string (strB (whole ((decV L).1))); let k4 := (.bool true : Value) = .bool true; let k5 := !decide (((decV L).2) = 0); let k6 : Value := .string (strB L); let k7 : (Option Addr × Nat) → Value := fun x => .tuple #[.slice x.1 (k0.length) x.2, .int .i64 0]; let k8 := Option Addr × Nat; let k9 := convert 28 9 (.slice p2 ((toI L).length) c2); let k10 := decide (s = t); let k11 : Array Value := #[.slice p2 ((toI L).length) c2]; let k12 : Array Value := #[.agg (stc u t)]; let k13 : Value := .string (strB (whole s)); let k14 : Value := .string (strB (whole t)); let k15 := decide (((toI L).length : Int) > 9000); let k16 := (.bool false : Value) = .bool true; ∀ g0 : Nat, ∀ g1 : Nat, Gives Tryz.prog w [] 8 #[] (.bool true) ∧ Gives Tryz.prog w [] 9 #[.agg (stc v s)] (.bool (short s)) ∧ ((short s) = true → Gives Tryz.prog w [] 9 k12 (.bool (short t)) ∧ ((short t) = true → (k15 = true → k4) ∧ (k15 = false → ((right s) = true → GivesM Tryz.prog w [] 10 #[.agg (stc v s)] k8 (fun x => .tuple #[.slice x.1 (k1.length) x.2, .int .i64 0]) (fun x => [ownF (rdInt .u8) 1 5 x.1 (k1.length) x.2 k1]) ∧ ∀ x5 : Option Addr × Nat, let k17 : List Fact := [ownF (rdInt .u8) 1 5 x5.1 (k1.length) x5.2 k1]; ((right t) = true → GivesM Tryz.prog w k17 10 k12 k8 (fun x => .tuple #[.slice x.1 (k2.length) x.2, .int .i64 0]) (fun x => [ownF (rdInt .u8) 1 5 x.1 (k2.length) x.2 k2]) ∧ ∀ x7 : Option Addr × Nat, GivesM Tryz.prog w [ownF (rdInt .u8) 1 5 x7.1 (k2.length) x7.2 k2, ownF (rdInt .u8) 1 5 x5.1 (k1.length) x5.2 k1] 14 #[.slice x5.1 (k1.length) x5.2] (Dat (fun w S v => InS w S v s) (Lt w.heap.size) w) (fun x => .tuple #[.agg (stc x.1.2.2 s), .int .i64 0]) (fun x => [poolF x.1.1 x.1.2.1]) ∧ ∀ x8 : Dat (fun w S v => InS w S v s) (Lt w.heap.size) w,let k18 : List Fact := [poolF x8.1.1 x8.1.2.1, ownF (rdInt .u8) 1 5 x7.1 (k2.length) x7.2 k2, ownF (rdInt .u8) 1 5 x5.1 (k1.length) x5.2 k1];  ∀ g2 : Nat, Gives Tryz.prog w k18 17 #[.agg (stc x8.1.2.2 s), .agg (stc v s)] (.bool true) ∧ Yields0 Tryz.prog w k18 (convert 28 9 (.slice x5.1 (k1.length) x5.2)) k13 ∧ Yields0 Tryz.prog w k18 (convert 28 9 (.slice x7.1 (k2.length) x7.2)) k14 ∧ Yields0 Tryz.prog w k18 (do eqGuard BinOp.eql 9 (.tmp 61) (.tmp 63) k13 k14; Go.binOp BinOp.eql 9 k13 k14) (.bool k10) ∧ (k10 = true → Gives Tryz.prog w k18 17 #[.agg (stc v s), .agg (stc u t)] (.bool k10) ∧ (k10 = true → GivesM Tryz.prog w k18 14 k11 (Dat (fun w S v => InS w S v ((decV L).1)) (Lt w.heap.size) w) (fun x => .tuple #[.agg (stc x.1.2.2 ((decV L).1)), .int .i64 ((decV L).2)]) (fun x => [poolF x.1.1 x.1.2.1]) ∧ ∀ x11 : Dat (fun w S v => InS w S v ((decV L).1)) (Lt w.heap.size) w,let k19 : List Fact := [poolF x11.1.1 x11.1.2.1, poolF x8.1.1 x8.1.2.1, ownF (rdInt .u8) 1 5 x7.1 (k2.length) x7.2 k2, ownF (rdInt .u8) 1 5 x5.1 (k1.length) x5.2 k1]; let k20 := stc x11.1.2.2 ((decV L).1);  ∀ g3 : Nat, (k5 = true → Gives Tryz.prog w k19 17 #[.agg k20, .agg (stc zsv zst)] (.bool true) ∧ k4) ∧ (k5 = false → GivesM Tryz.prog w k19 10 #[.agg k20] k8 k7 (fun x => [ownF (rdInt .u8) 1 5 x.1 (k0.length) x.2 k0]) ∧ ∀ x13 : Option Addr × Nat, let k21 : List Fact := [ownF (rdInt .u8) 1 5 x13.1 (k0.length) x13.2 k0, poolF x11.1.1 x11.1.2.1, poolF x8.1.1 x8.1.2.1, ownF (rdInt .u8) 1 5 x7.1 (k2.length) x7.2 k2, ownF (rdInt .u8) 1 5 x5.1 (k1.length) x5.2 k1]; Yields0 Tryz.prog w k21 (convert 28 9 (.slice x13.1 (k0.length) x13.2)) k3 ∧ Yields0 Tryz.prog w k21 k9 k6 ∧ Yields0 Tryz.prog w k21 (do eqGuard BinOp.eql 9 (.tmp 89) (.tmp 91) k3 k6; Go.binOp BinOp.eql 9 k3 k6) (.bool true) ∧ k4)) ∧ (k10 = false → k16)) ∧ (k10 = false → Gives Tryz.prog w k18 17 #[.agg (stc v s), .agg (stc u t)] (.bool k10) ∧ (k10 = true → k16) ∧ (k10 = false → GivesM Tryz.prog w k18 14 k11 (Dat (fun w S v => InS w S v ((decV L).1)) (Lt w.heap.size) w) (fun x => .tuple #[.agg (stc x.1.2.2 ((decV L).1)), .int .i64 ((decV L).2)]) (fun x => [poolF x.1.1 x.1.2.1]) ∧ ∀ x15 : Dat (fun w S v => InS w S v ((decV L).1)) (Lt w.heap.size) w,let k22 : List Fact := [poolF x15.1.1 x15.1.2.1, poolF x8.1.1 x8.1.2.1, ownF (rdInt .u8) 1 5 x7.1 (k2.length) x7.2 k2, ownF (rdInt .u8) 1 5 x5.1 (k1.length) x5.2 k1]; let k23 := stc x15.1.2.2 ((decV L).1);  ∀ g3 : Nat, (k5 = true → Gives Tryz.prog w k22 17 #[.agg k23, .agg (stc zsv zst)] (.bool true) ∧ k4) ∧ (k5 = false → GivesM Tryz.prog w k22 10 #[.agg k23] k8 k7 (fun x => [ownF (rdInt .u8) 1 5 x.1 (k0.length) x.2 k0]) ∧ ∀ x17 : Option Addr × Nat, let k24 : List Fact := [ownF (rdInt .u8) 1 5 x17.1 (k0.length) x17.2 k0, poolF x15.1.1 x15.1.2.1, poolF x8.1.1 x8.1.2.1, ownF (rdInt .u8) 1 5 x7.1 (k2.length) x7.2 k2, ownF (rdInt .u8) 1 5 x5.1 (k1.length) x5.2 k1]; Yields0 Tryz.prog w k24 (convert 28 9 (.slice x17.1 (k0.length) x17.2)) k3 ∧ Yields0 Tryz.prog w k24 k9 k6 ∧ Yields0 Tryz.prog w k24 (do eqGuard BinOp.eql 9 (.tmp 89) (.tmp 91) k3 k6; Go.binOp BinOp.eql 9 k3 k6) (.bool true) ∧ k4)))) ∧ ((right t) = false → GivesM Tryz.prog w k17 10 k12 k8 (fun x => .tuple #[.slice x.1 0 x.2, .int .i64 1]) (fun x => []) ∧ ∀ x18 : Option Addr × Nat, GivesM Tryz.prog w k17 14 #[.slice x5.1 (k1.length) x5.2] (Dat (fun w S v => InS w S v s) (Lt w.heap.size) w) (fun x => .tuple #[.agg (stc x.1.2.2 s), .int .i64 0]) (fun x => [poolF x.1.1 x.1.2.1]) ∧ ∀ x19 : Dat (fun w S v => InS w S v s) (Lt w.heap.size) w,let k25 : List Fact := [poolF x19.1.1 x19.1.2.1, ownF (rdInt .u8) 1 5 x5.1 (k1.length) x5.2 k1];  ∀ g2 : Nat, Gives Tryz.prog w k25 17 #[.agg (stc x19.1.2.2 s), .agg (stc v s)] (.bool true) ∧ GivesM Tryz.prog w k25 14 k11 (Dat (fun w S v => InS w S v ((decV L).1)) (Lt w.heap.size) w) (fun x => .tuple #[.agg (stc x.1.2.2 ((decV L).1)), .int .i64 ((decV L).2)]) (fun x => [poolF x.1.1 x.1.2.1]) ∧ ∀ x20 : Dat (fun w S v => InS w S v ((decV L).1)) (Lt w.heap.size) w,let k26 : List Fact := [poolF x20.1.1 x20.1.2.1, poolF x19.1.1 x19.1.2.1, ownF (rdInt .u8) 1 5 x5.1 (k1.length) x5.2 k1]; let k27 := stc x20.1.2.2 ((decV L).1);  ∀ g3 : Nat, (k5 = true → Gives Tryz.prog w k26 17 #[.agg k27, .agg (stc zsv zst)] (.bool true) ∧ k4) ∧ (k5 = false → GivesM Tryz.prog w k26 10 #[.agg k27] k8 k7 (fun x => [ownF (rdInt .u8) 1 5 x.1 (k0.length) x.2 k0]) ∧ ∀ x22 : Option Addr × Nat, let k28 : List Fact := [ownF (rdInt .u8) 1 5 x22.1 (k0.length) x22.2 k0, poolF x20.1.1 x20.1.2.1, poolF x19.1.1 x19.1.2.1, ownF (rdInt .u8) 1 5 x5.1 (k1.length) x5.2 k1]; Yields0 Tryz.prog w k28 (convert 28 9 (.slice x22.1 (k0.length) x22.2)) k3 ∧ Yields0 Tryz.prog w k28 k9 k6 ∧ Yields0 Tryz.prog w k28 (do eqGuard BinOp.eql 9 (.tmp 89) (.tmp 91) k3 k6; Go.binOp BinOp.eql 9 k3 k6) (.bool true) ∧ k4))) ∧ ((right s) = false → GivesM Tryz.prog w [] 10 #[.agg (stc v s)] k8 (fun x => .tuple #[.slice x.1 0 x.2, .int .i64 1]) (fun x => []) ∧ ∀ x23 : Option Addr × Nat, ((right t) = true → GivesM Tryz.prog w [] 10 k12 k8 (fun x => .tuple #[.slice x.1 (k2.length) x.2, .int .i64 0]) (fun x => [ownF (rdInt .u8) 1 5 x.1 (k2.length) x.2 k2]) ∧ ∀ x25 : Option Addr × Nat, GivesM Tryz.prog w [ownF (rdInt .u8) 1 5 x25.1 (k2.length) x25.2 k2] 14 k11 (Dat (fun w S v => InS w S v ((decV L).1)) (Lt w.heap.size) w) (fun x => .tuple #[.agg (stc x.1.2.2 ((decV L).1)), .int .i64 ((decV L).2)]) (fun x => [poolF x.1.1 x.1.2.1]) ∧ ∀ x26 : Dat (fun w S v => InS w S v ((decV L).1)) (Lt w.heap.size) w,let k29 : List Fact := [poolF x26.1.1 x26.1.2.1, ownF (rdInt .u8) 1 5 x25.1 (k2.length) x25.2 k2]; let k30 := stc x26.1.2.2 ((decV L).1);  ∀ g2 : Nat, (k5 = true → Gives Tryz.prog w k29 17 #[.agg k30, .agg (stc zsv zst)] (.bool true) ∧ k4) ∧ (k5 = false → GivesM Tryz.prog w k29 10 #[.agg k30] k8 k7 (fun x => [ownF (rdInt .u8) 1 5 x.1 (k0.length) x.2 k0]) ∧ ∀ x28 : Option Addr × Nat, let k31 : List Fact := [ownF (rdInt .u8) 1 5 x28.1 (k0.length) x28.2 k0, poolF x26.1.1 x26.1.2.1, ownF (rdInt .u8) 1 5 x25.1 (k2.length) x25.2 k2]; Yields0 Tryz.prog w k31 (convert 28 9 (.slice x28.1 (k0.length) x28.2)) k3 ∧ Yields0 Tryz.prog w k31 k9 k6 ∧ Yields0 Tryz.prog w k31 (do eqGuard BinOp.eql 9 (.tmp 89) (.tmp 91) k3 k6; Go.binOp BinOp.eql 9 k3 k6) (.bool true) ∧ k4)) ∧ ((right t) = false → GivesM Tryz.prog w [] 10 k12 k8 (fun x => .tuple #[.slice x.1 0 x.2, .int .i64 1]) (fun x => []) ∧ ∀ x29 : Option Addr × Nat, GivesM Tryz.prog w [] 14 k11 (Dat (fun w S v => InS w S v ((decV L).1)) (Lt w.heap.size) w) (fun x => .tuple #[.agg (stc x.1.2.2 ((decV L).1)), .int .i64 ((decV L).2)]) (fun x => [poolF x.1.1 x.1.2.1]) ∧ ∀ x30 : Dat (fun w S v => InS w S v ((decV L).1)) (Lt w.heap.size) w,let k32 := stc x30.1.2.2 ((decV L).1);  ∀ g2 : Nat, (k5 = true → Gives Tryz.prog w [poolF x30.1.1 x30.1.2.1] 17 #[.agg k32, .agg (stc zsv zst)] (.bool true) ∧ k4) ∧ (k5 = false → GivesM Tryz.prog w [poolF x30.1.1 x30.1.2.1] 10 #[.agg k32] k8 k7 (fun x => [ownF (rdInt .u8) 1 5 x.1 (k0.length) x.2 k0]) ∧ ∀ x32 : Option Addr × Nat, let k33 : List Fact := [ownF (rdInt .u8) 1 5 x32.1 (k0.length) x32.2 k0, poolF x30.1.1 x30.1.2.1]; Yields0 Tryz.prog w k33 (convert 28 9 (.slice x32.1 (k0.length) x32.2)) k3 ∧ Yields0 Tryz.prog w k33 k9 k6 ∧ Yields0 Tryz.prog w k33 (do eqGuard BinOp.eql 9 (.tmp 89) (.tmp 91) k3 k6; Go.binOp BinOp.eql 9 k3 k6) (.bool true) ∧ k4))))) ∧ ((short t) = false → k4)) ∧ ((short s) = false → k4)) Tryz.func4 (by kernel_rfl)
 (fun g0 => fun g1 => ⟨gives awake13, ⟨i_short, fun h1 => ⟨i_short, fun h2 => ⟨fun h3 => have h3 : 9000 < ((toI L).length : Int) := (by simpa using h3)
 rfl,
 fun h3 => have h3 : ¬ 9000 < ((toI L).length : Int) := (by simpa using h3)
⟨fun h4 => ⟨(c_enc_yes (all_lt h) h4), fun x5 => ⟨fun h6 => ⟨(c_enc_yes (all_lt g) h6), fun x7 => ⟨(g_decode (fixed_low (fun k hk => hk)) (own_dec (j := 1) rfl) (dec_back h4 (row.whole_of h))), fun x8 => fun g2 => ⟨(g_same (dat_lt x8 (fixed_low (fun k hk => hk)) (i := 0) rfl) (all_lt h) (decide_eq_true rfl)), ⟨(own_str Tryz.underlying28 Tryz.underlying5 Tryz.underlying9 (j := 2) rfl), ⟨(own_str Tryz.underlying28 Tryz.underlying5 Tryz.underlying9 (j := 1) rfl), ⟨(str_same h4 (row.whole_of h) h6 (row.whole_of g) _ _), fun h9 => ⟨(g_same (all_lt h) (all_lt g) rfl), fun h10 => ⟨(g_decode (fixed_low (fun k hk => hk)) (fun w2 hw _ => ⟨el_later (keeps_int _) (el_of hb) hw, hc, hlm⟩) rfl), fun x11 => fun g3 => ⟨fun h12 => have h12 : ¬ ((decV L).2) = 0 := (by simpa using h12)
⟨(g_same (dat_lt x11 (fixed_low (fun k hk => hk)) (i := 0) rfl) (fun w _ _ => zst_in) (decide_eq_true (dec_err h12))), rfl⟩,
 fun h12 => have h12 : ((decV L).2) = 0 := (by simpa using h12)
⟨(c_enc_yes (dat_lt x11 (fixed_low (fun k hk => hk)) (i := 0) rfl) (dec_ok h12).1), fun x13 => ⟨(own_str Tryz.underlying28 Tryz.underlying5 Tryz.underlying9 (j := 0) rfl), ⟨(to_str Tryz.underlying28 Tryz.underlying5 Tryz.underlying9 (BysIn.bys hb (fun _ h => h))), ⟨(str_same_true (dec_ok h12).2 _ _), rfl⟩⟩⟩⟩⟩⟩,
 fun h10 => (absurd (h9.symm.trans h10) (by decide))⟩,
 fun h9 => ⟨(g_same (all_lt h) (all_lt g) rfl), fun h14 => (absurd (h14.symm.trans h9) (by decide)),
 fun h14 => ⟨(g_decode (fixed_low (fun k hk => hk)) (fun w2 hw _ => ⟨el_later (keeps_int _) (el_of hb) hw, hc, hlm⟩) rfl), fun x15 => fun g3 => ⟨fun h16 => have h16 : ¬ ((decV L).2) = 0 := (by simpa using h16)
⟨(g_same (dat_lt x15 (fixed_low (fun k hk => hk)) (i := 0) rfl) (fun w _ _ => zst_in) (decide_eq_true (dec_err h16))), rfl⟩,
 fun h16 => have h16 : ((decV L).2) = 0 := (by simpa using h16)
⟨(c_enc_yes (dat_lt x15 (fixed_low (fun k hk => hk)) (i := 0) rfl) (dec_ok h16).1), fun x17 => ⟨(own_str Tryz.underlying28 Tryz.underlying5 Tryz.underlying9 (j := 0) rfl), ⟨(to_str Tryz.underlying28 Tryz.underlying5 Tryz.underlying9 (BysIn.bys hb (fun _ h => h))), ⟨(str_same_true (dec_ok h16).2 _ _), rfl⟩⟩⟩⟩⟩⟩⟩⟩⟩⟩⟩⟩⟩,
 fun h6 => ⟨(c_enc_no (all_lt g) h6), fun x18 => ⟨(g_decode (fixed_low (fun k hk => hk)) (own_dec (j := 0) rfl) (dec_back h4 (row.whole_of h))), fun x19 => fun g2 => ⟨(g_same (dat_lt x19 (fixed_low (fun k hk => hk)) (i := 0) rfl) (all_lt h) (decide_eq_true rfl)), ⟨(g_decode (fixed_low (fun k hk => hk)) (fun w2 hw _ => ⟨el_later (keeps_int _) (el_of hb) hw, hc, hlm⟩) rfl), fun x20 => fun g3 => ⟨fun h21 => have h21 : ¬ ((decV L).2) = 0 := (by simpa using h21)
⟨(g_same (dat_lt x20 (fixed_low (fun k hk => hk)) (i := 0) rfl) (fun w _ _ => zst_in) (decide_eq_true (dec_err h21))), rfl⟩,
 fun h21 => have h21 : ((decV L).2) = 0 := (by simpa using h21)
⟨(c_enc_yes (dat_lt x20 (fixed_low (fun k hk => hk)) (i := 0) rfl) (dec_ok h21).1), fun x22 => ⟨(own_str Tryz.underlying28 Tryz.underlying5 Tryz.underlying9 (j := 0) rfl), ⟨(to_str Tryz.underlying28 Tryz.underlying5 Tryz.underlying9 (BysIn.bys hb (fun _ h => h))), ⟨(str_same_true (dec_ok h21).2 _ _), rfl⟩⟩⟩⟩⟩⟩⟩⟩⟩⟩⟩,
 fun h4 => ⟨(c_enc_no (all_lt h) h4), fun x23 => ⟨fun h24 => ⟨(c_enc_yes (all_lt g) h24), fun x25 => ⟨(g_decode (fixed_low (fun k hk => hk)) (fun w2 hw _ => ⟨el_later (keeps_int _) (el_of hb) hw, hc, hlm⟩) rfl), fun x26 => fun g2 => ⟨fun h27 => have h27 : ¬ ((decV L).2) = 0 := (by simpa using h27)
⟨(g_same (dat_lt x26 (fixed_low (fun k hk => hk)) (i := 0) rfl) (fun w _ _ => zst_in) (decide_eq_true (dec_err h27))), rfl⟩,
 fun h27 => have h27 : ((decV L).2) = 0 := (by simpa using h27)
⟨(c_enc_yes (dat_lt x26 (fixed_low (fun k hk => hk)) (i := 0) rfl) (dec_ok h27).1), fun x28 => ⟨(own_str Tryz.underlying28 Tryz.underlying5 Tryz.underlying9 (j := 0) rfl), ⟨(to_str Tryz.underlying28 Tryz.underlying5 Tryz.underlying9 (BysIn.bys hb (fun _ h => h))), ⟨(str_same_true (dec_ok h27).2 _ _), rfl⟩⟩⟩⟩⟩⟩⟩,
 fun h24 => ⟨(c_enc_no (all_lt g) h24), fun x29 => ⟨(g_decode (fixed_low (fun k hk => hk)) (fun w2 hw _ => ⟨el_later (keeps_int _) (el_of hb) hw, hc, hlm⟩) rfl), fun x30 => fun g2 => ⟨fun h31 => have h31 : ¬ ((decV L).2) = 0 := (by simpa using h31)
⟨(g_same (dat_lt x30 (fixed_low (fun k hk => hk)) (i := 0) rfl) (fun w _ _ => zst_in) (decide_eq_true (dec_err h31))), rfl⟩,
 fun h31 => have h31 : ((decV L).2) = 0 := (by simpa using h31)
⟨(c_enc_yes (dat_lt x30 (fixed_low (fun k hk => hk)) (i := 0) rfl) (dec_ok h31).1), fun x32 => ⟨(own_str Tryz.underlying28 Tryz.underlying5 Tryz.underlying9 (j := 0) rfl), ⟨(to_str Tryz.underlying28 Tryz.underlying5 Tryz.underlying9 (BysIn.bys hb (fun _ h => h))), ⟨(str_same_true (dec_ok h31).2 _ _), rfl⟩⟩⟩⟩⟩⟩⟩⟩⟩⟩⟩,
 fun h2 => rfl⟩,
 fun h1 => rfl⟩⟩)
theorem walk0 (v : Sv) (s : St) (u : Sv) (t : St) (p2 : Option Addr) (c2 : Nat) (L : List Nat)  (w : World) (h : InS w (Lt w.heap.size) v s) (g : InS w (Lt w.heap.size) u t) (hb : BysIn w (Lt w.heap.size) p2 L) (hlm : L.length ≤ 9223372036854775807) (hc : L.length ≤ c2) : Calls Tryz.prog 4 #[.agg (stc v s), .agg (stc u t), .slice p2 L.length c2] w fun e w' => e = .returned (.bool true) ∧ Below w.heap.size w w' := by
 have := walk1 v s u t p2 c2 L w h g hb hlm hc
 rw [toI_len] at this
 exact this
-- VX ENDS
theorem walk (cs0 : Array Value) (x0 : StateD) (cs1 : Array Value) (x1 : StateD) (p2 : Option Addr) (n2 c2 : Nat) (x2 : List Nat) (w : World) (w0 : rdState w (Lt w.heap.size) cs0.toList x0) (w1 : rdState w (Lt w.heap.size) cs1.toList x1) (w2 : rdBytes w (Lt w.heap.size) [.slice p2 n2 c2] x2) :
  Calls Tryz.prog 4 #[.agg cs0, .agg cs1, .slice p2 n2 c2] w fun e w' => e = .returned (.bool true) ∧ Below w.heap.size w w' := by
 obtain ⟨v0, e0, h0⟩ := w0
 obtain rfl : cs0 = stc v0 x0 := by apply Array.toList_inj.1; exact e0
 obtain ⟨v1, e1, h1⟩ := w1
 obtain rfl : cs1 = stc v1 x1 := by apply Array.toList_inj.1; exact e1
 obtain ⟨A2, m2, q2, e2, hx2, hl2, hc2, hm2⟩ := w2
 obtain ⟨rfl, rfl, rfl⟩ : p2 = A2 ∧ n2 = m2 ∧ c2 = q2 := by simpa using e2
 subst hl2
 exact walk0 v0 x0 v1 x1 p2 c2 x2 w h0 h1 hx2 (by unfold maxLen at hm2; omega) hc2
set_option maxRecDepth 100000 in
theorem lifted (os : Os) (started : os.Started) (H : Type) (enc : TypeId × Value → H) :
  ReturnsInHanded {} Tryz.checked os 4 .any (Rows.rowBackSpec.pre6 enc Tryz.prog Tryz.f4 Rows.rowBackRow.domain false) (Rows.rowBackSpec.post enc Tryz.prog Tryz.f4 false true false false) := by
 refine returnsInHanded_of_change (C := Tryz.checked) own started (by kernel_rfl) Tryz.func4
  (ChangeSpec.witness6 (enc := enc) (C := Tryz.checked) false ⟨#[], #[.agg #[.int .i64 0, .int .i64 0, .slice none 0 0, .slice none 0 0, .slice none 0 0, .slice none 0 0, .bool false, .int .i64 0, .int .i64 0, .int .i64 0], .agg #[.int .i64 0, .int .i64 0, .slice none 0 0, .slice none 0 0, .slice none 0 0, .slice none 0 0, .bool false, .int .i64 0, .int .i64 0, .int .i64 0], .slice none 0 0], []⟩ 8 (by kernel_rfl) (by kernel_rfl) (by kernel_rfl) (by kernel_rfl)) ?_
 intro W base args ds gs before hval0 hW hcnd _
 have hval : ∀ (j : Nat) t v, Tryz.f4.params[j]? = some t → args[j]? = some v → Value.okWide Tryz.prog W .any base t v := hval0
 have hW' := hW
 obtain ⟨p, q, hA0, hV, rfl, hfz, hnd⟩ := hW
 have hA : DataW.TrodAll enc Tryz.prog W 0 (fun _ => true) true Tryz.f4.params.toList args.toList ds p := hA0
 rw [Tryz.params4] at hA hval
 obtain ⟨v0, vs0, d0, ds0, p0_, q0, hargs, rfl, rfl, h0, r0⟩ := trodAll_cons hA
 obtain ⟨v1, vs1, d1, ds1, p1_, q1, rfl, rfl, rfl, h1, r1⟩ := trodAll_cons r0
 obtain ⟨v2, vs2, d2, ds2, p2_, q2, rfl, rfl, rfl, h2, r2⟩ := trodAll_cons r1
 obtain ⟨rfl, rfl, rfl⟩ := trodAll_nil r2
 obtain rfl : args = #[v0, v1, v2] := by cases args; simp_all
 obtain ⟨rfl, rfl⟩ := trodVars_none hV
 obtain ⟨cs0, rfl, hsz0⟩ := okWide_struct Tryz.underlying27 (hval 0 27 v0 rfl rfl)
 have k0 := h0
 have lt0 : ∀ x ∈ p0_, x.block < W.heap.size := by obtain ⟨m, hm⟩ := k0; exact DataW.trod_lt m _ _ _ hm
 obtain ⟨x0, w0⟩ := of_arg of_state k0
 obtain ⟨cs1, rfl, hsz1⟩ := okWide_struct Tryz.underlying27 (hval 1 27 v1 rfl rfl)
 have k1 := h1
 have lt1 : ∀ x ∈ p1_, x.block < W.heap.size := by obtain ⟨m, hm⟩ := k1; exact DataW.trod_lt m _ _ _ hm
 obtain ⟨x1, w1⟩ := of_arg of_state k1
 obtain ⟨p2, n2, c2, rfl⟩ := okWide_slice Tryz.underlying28 (hval 2 28 v2 rfl rfl)
 have k2 := h2
 have lt2 : ∀ x ∈ p2_, x.block < W.heap.size := by obtain ⟨m, hm⟩ := k2; exact DataW.trod_lt m _ _ _ hm
 obtain ⟨x2, w2⟩ := of_arg (of_bytes Tryz.underlying28 Tryz.underlying5 (by kernel_rfl)) k2
 clear hA0 hval0
 refine (walk cs0 x0 cs1 x1 p2 n2 c2 x2 W w0 w1 w2).mono fun e W' ⟨he, bel⟩ => ?_
 subst he
 exact ⟨_, rfl, _, _, _, [], _, [], hW', trodAll_mk1 (shut_bool Tryz.underlying4 _), (trodAll_cons_mk (Below.trod laidOut (by kernel_rfl) (of_decide_eq_true (by kernel_rfl)) k0 bel lt0) (trodAll_cons_mk (Below.trod laidOut (by kernel_rfl) (of_decide_eq_true (by kernel_rfl)) k1 bel lt1) (trodAll_cons_mk (Below.trod laidOut (by kernel_rfl) (of_decide_eq_true (by kernel_rfl)) k2 bel lt2) trodAll_mk0))), rfl, bel.frame _, fun h => by cases h⟩
theorem over : Rows.rowBackRow.holds Tryz.pinned (OpenSpec.ofChange Rows.rowBackSpec) :=
 OpenClaim.holds_of_wide 4 Tryz.f4 rfl rfl rfl rfl rfl rfl rfl ⟨rfl, rfl, rfl, rfl, rfl⟩ rfl rfl rfl rfl rfl (by kernel_rfl) Tryz.func4 (by kernel_rfl)
  (of_decide_eq_true (by kernel_rfl)) (by unfold Func.isWrapper; first | (rw [if_pos (by decide +kernel)]; kernel_rfl) | (rw [if_neg (by decide +kernel)]; exact ⟨rfl, rfl⟩))
  (fun os started H enc _ => lifted os started H enc)
theorem proved : Rows.RowBackSaid := over
#print axioms proved
end Go.Proofs.YtalhdalinpdanabGreat.rowBack
