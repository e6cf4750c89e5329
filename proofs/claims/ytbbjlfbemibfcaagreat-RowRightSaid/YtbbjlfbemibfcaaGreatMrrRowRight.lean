/-
  PROVED: the law RowRight answers true at every input, and leaves what it was given as it was.
  CONDITIONS: none.
-/
import Derived.Test.YtbbjlfbemibfcaaGreatRows
import Derived.WalkKit
import Derived.ProofKit
import Derived.OpenShut
import Derived.ShutString
import Derived.ChangeOld
import Derived.Below
import Derived.Test.YtbbjlfbemibfcaaGreatMrr04
import Derived.Test.YtbbjlfbemibfcaaGreatMrr43
import Derived.Test.YtbbjlfbemibfcaaGreatMrr53
import Derived.Test.YtbbjlfbemibfcaaGreatMrr39
import Derived.Test.YtbbjlfbemibfcaaGreatMrr38
set_option linter.unusedVariables false
set_option linter.unusedSimpArgs false
namespace Go.Proofs.YtbbjlfbemibfcaaGreat.rowRight
open Go.ChangeShapes Go.WideShapes Go.ChangeAt Go.RowKit
open Go.ChangeMaps (open_string shut_string)
open Go.Proofs.YtbbjlfbemibfcaaGreat Go.Proofs.YtbbjlfbemibfcaaGreat.book
open Go.Proofs.YtbbjlfbemibfcaaGreat.order (Or open_ worth oz)
open Go.Proofs.YtbbjlfbemibfcaaGreat.cell (Ce Ex)
open Go.Proofs.YtbbjlfbemibfcaaGreat.rec (Rc)
theorem own : ownKnob Tryz.prog.godebug = none := by kernel_rfl
theorem laidOut : laidOutB Tryz.prog = true := by kernel_rfl
-- VX BEGINS
set_option maxRecDepth 20000
open Go.Proofs.YtbbjlfbemibfcaaGreat.row
theorem q4a {s : St} (h : right s = true) : ((Ig s : Nat) : Int) = (((ak (whole s)).length : Nat) : Int) := by
 rw [iy, qpk (uj h)]
section
variable {P : Program} {w0 W : World} {D : List Fact} {v u : Sv} {s t : St} {b : Bool} {A : Option Addr} {c : Nat} {L : List Nat} {T : TypeId}
theorem qug {a : ByteArray} (ox oy : Operand) : jd P w0 D (do eqGuard .neq T ox oy (.string a) (.string a); Go.binOp .neq T (.string a) (.string a)) (.bool false) := by
 have := qv0 (P := P) (w0 := w0) (D := D) (T := T) (a := a) (b := a) ox oy
 rwa [decide_eq_true rfl] at this
theorem q1c (hs : ∀ w, Below w0.heap.size w0 w → All D w → lu w (Lt w.heap.size) v s) (h : right s = false) : iq Tryz.prog w0 D 12 #[.agg (bg v s)] (.int .i64 0) := fun w hw ha => by
 have h1 := qph v s w (hs w hw ha)
 rw [show U1 s = 0 from if_neg (by rw [h]; decide)] at h1
 exact h1
theorem qx8 (hs : ∀ w, Below w0.heap.size w0 w → All D w → lu w (Lt w.heap.size) v s) (h : right s = true) : iq Tryz.prog w0 D 12 #[.agg (bg v s)] (.int .i64 ((Ig s : Nat) : Int)) := fun w hw ha => by
 have h1 := qph v s w (hs w hw ha)
 rw [show U1 s = (Ig s : Int) from if_pos h] at h1
 exact h1
theorem qnm (hs : ∀ w, Below w0.heap.size w0 w → All D w → lu w (Lt w.heap.size) v s) (h : right s = b) : iq Tryz.prog w0 D 11 #[.agg (bg v s)] (.bool b) := by
 have := qok hs
 rw [h] at this; exact this
theorem q1d (hs : ∀ w, Below w0.heap.size w0 w → All D w → lu w (Lt w.heap.size) v s) (hr : row.Lens s) : qg Tryz.prog w0 D 13 #[.agg (bg v s)] (Option Addr × Nat) (fun x => .slice x.1 (ak (whole s)).length x.2) (fun x => [ah (bf .u8) 1 5 x.1 (ak (whole s)).length x.2 (ak (whole s))]) := fun w hw ha => q3k v s w (hs w hw ha) hr
theorem qwv (hs : ∀ w, Below w0.heap.size w0 w → All D w → lu w (Lt w.heap.size) v s) (ht : ∀ w, Below w0.heap.size w0 w → All D w → lu w (Lt w.heap.size) u t) (hb : decide (s = t) = b) : iq Tryz.prog w0 D 16 #[.agg (bg v s), .agg (bg u t)] (.bool b) := by
 have := book.qmk hs ht
 rw [hb] at this; exact this
theorem qrk {S : Nat → Prop} (hd : Uf w0 D S W) (hx : ∀ w, Below w0.heap.size w0 w → All D w → ql (bf .u8) 1 w (Lt w.heap.size) A (ak L)) (hc : L.length ≤ c) (hl : L.length ≤ 9000) :
  qg Tryz.prog w0 D 15 #[.slice A (ak L).length c] (Dat (fun w S v => lu w S v (ig L).1) S W) (fun x => .tuple #[.agg (bg x.1.2.2 (ig L).1), .int .i64 (ig L).2]) (fun x => [C9 x.1.1 x.1.2.1]) :=
 qjx (R := fun w S v => lu w S v (ig L).1) (r := fun b => .tuple #[.agg (bg b (ig L).1), .int .i64 (ig L).2]) hd (fun w hw ha => by
  have h := q39 L A c (L.getD 4 0) (L.getD 5 0) (L.getD 7 0) (L.getD 4 0 * L.getD 5 0) w (hx w hw ha) hc hl rfl rfl rfl rfl
  have hf := Hy L
  refine h.mono ?_
  rintro e w' ⟨x, rfl, hb, hn⟩
  exact ⟨x, rfl, hb, (q0s hn hf).keep (alike_refl _ _) (fun _ h => .inr h)⟩)
end
set_option maxHeartbeats 1000000 in
theorem zam (v : Sv) (s : St) (u : Sv) (t : St) (p2 : Option Addr) (c2 : Nat) (L : List Nat)  (w : World) (h : lu w (Lt w.heap.size) v s) (g : lu w (Lt w.heap.size) u t) (hb : Q5 w (Lt w.heap.size) p2 L) (hlm : L.length ≤ 9223372036854775807) (hc : L.length ≤ c2) : Calls Tryz.prog 3 #[.agg (bg v s), .agg (bg u t), .slice p2 (ak L).length c2] w fun e w' => e = .returned (.bool true) ∧ Below w.heap.size w w' :=
 have hlen := h.len
 uw (fn := Tryz.f3) (r := .bool true) (t := let k0 := decide (s = t); let k3 := ak (whole s); let k1 := k3.length; let k2 := Option Addr × Nat; .c (.bool true) (.cs (short s) (.k (.cs (short t) (.k (.s .z (.gs (right s) (.cm k2 (fun x => .tuple #[.slice x.1 k1 x.2, .int .i64 0]) (fun x => [ah (bf .u8) 1 5 x.1 k1 x.2 k3]) (fun x5 => .c (.bool true) (.o [] (.k (.k (.x (.string (wo (whole s))) (.cm k2 (fun x => .slice x.1 k1 x.2) (fun x => [ah (bf .u8) 1 5 x.1 k1 x.2 k3]) (fun x6 => .now (.string (wo (whole s))) (.x (.bool false) (.k (.c (.int .i64 ((Ig s : Nat) : Int)) (.s .z (.cm (Dat (fun w S v => lu w S v ((ig L).1)) (Lt w.heap.size) w) (fun x => .tuple #[.agg (bg x.1.2.2 ((ig L).1)), .int .i64 ((ig L).2)]) (fun x => [C9 x.1.1 x.1.2.1]) (fun x8 => .cm (Dat (fun w S v => lu w S v ((ig L).1)) (fun k => Lt w.heap.size k ∨ x8.1.2.1 k) x8.1.1) (fun x => .tuple #[.agg (bg x.1.2.2 ((ig L).1)), .int .i64 ((ig L).2)]) (fun x => [C9 x.1.1 x.1.2.1]) (fun x9 => .o [] (.m true (.k (.c (.bool true) (.k (.cs k0 (.cs k0 (.k .z) (.k .z)) (.cs k0 (.k .z) (.k .z)))))))))))))))))))))) (.cm k2 (fun x => .tuple #[.slice x.1 0 x.2, .int .i64 1]) (fun x => []) (fun Cc => .c (.bool false) (.k (.k (.k (.k (.c (.int .i64 0) (.k (.cm (Dat (fun w S v => lu w S v ((ig L).1)) (Lt w.heap.size) w) (fun x => .tuple #[.agg (bg x.1.2.2 ((ig L).1)), .int .i64 ((ig L).2)]) (fun x => [C9 x.1.1 x.1.2.1]) (fun x14 => .cm (Dat (fun w S v => lu w S v ((ig L).1)) (fun k => Lt w.heap.size k ∨ x14.1.2.1 k) x14.1.1) (fun x => .tuple #[.agg (bg x.1.2.2 ((ig L).1)), .int .i64 ((ig L).2)]) (fun x => [C9 x.1.1 x.1.2.1]) (fun x15 => .o [] (.m true (.k (.c (.bool true) (.k (.cs k0 (.cs k0 (.k .z) (.k .z)) (.cs k0 (.k .z) (.k .z))))))))))))))))))))) (.k .z))) (.k (.k .z)))) (X :=
 let k0 := ak (whole s); let k1 := decide (s = t); let k2 := (.bool true : Value) = .bool true; let k3 : Array Value := #[.agg (bg v s), .agg (bg u t)]; let k4 := (.bool false : Value) = .bool true; let k5 : Value := .string (wo (whole s)); let k6 : Array Value := #[.agg (bg v s)]; let k7 : Array Value := #[.slice p2 ((ak L).length) c2]; let k8 := !decide (((Ig s : Nat) : Int) = (k0.length : Int)); let k9 := decide (((ak L).length : Int) > 9000); let k10 := decide (((ig L).2) = ((ig L).2)); let k11 := Option Addr × Nat; ∀ g0 : Nat, ∀ g1 : Nat, iq Tryz.prog w [] 8 #[] (.bool true) ∧ iq Tryz.prog w [] 9 k6 (.bool (short s)) ∧ ((short s) = true → iq Tryz.prog w [] 9 #[.agg (bg u t)] (.bool (short t)) ∧ ((short t) = true → (k9 = true → k2) ∧ (k9 = false → ((right s) = true → qg Tryz.prog w [] 10 k6 k11 (fun x => .tuple #[.slice x.1 (k0.length) x.2, .int .i64 0]) (fun x => [ah (bf .u8) 1 5 x.1 (k0.length) x.2 k0]) ∧ ∀ x5 : Option Addr × Nat, let k12 : List Fact := [ah (bf .u8) 1 5 x5.1 (k0.length) x5.2 k0]; iq Tryz.prog w k12 11 k6 (.bool true) ∧ jd Tryz.prog w k12 (convert 28 9 (.slice x5.1 (k0.length) x5.2)) k5 ∧ qg Tryz.prog w k12 13 k6 k11 (fun x => .slice x.1 (k0.length) x.2) (fun x => [ah (bf .u8) 1 5 x.1 (k0.length) x.2 k0]) ∧ ∀ x6 : Option Addr × Nat, let k13 : List Fact := [ah (bf .u8) 1 5 x6.1 (k0.length) x6.2 k0, ah (bf .u8) 1 5 x5.1 (k0.length) x5.2 k0]; true = true ∧ jd Tryz.prog w k13 (convert 28 9 (.slice x6.1 (k0.length) x6.2)) k5 ∧ jd Tryz.prog w k12 (do eqGuard BinOp.neq 9 (.tmp 52) (.tmp 55) k5 k5; Go.binOp BinOp.neq 9 k5 k5) (.bool false) ∧ iq Tryz.prog w k13 12 k6 (.int .i64 ((Ig s : Nat) : Int)) ∧ (k8 = true → k4) ∧ (k8 = false → qg Tryz.prog w k13 14 k7 (Dat (fun w S v => lu w S v ((ig L).1)) (Lt w.heap.size) w) (fun x => .tuple #[.agg (bg x.1.2.2 ((ig L).1)), .int .i64 ((ig L).2)]) (fun x => [C9 x.1.1 x.1.2.1]) ∧ ∀ x8 : Dat (fun w S v => lu w S v ((ig L).1)) (Lt w.heap.size) w, ∀ g2 : Nat, qg Tryz.prog w [C9 x8.1.1 x8.1.2.1, ah (bf .u8) 1 5 x6.1 (k0.length) x6.2 k0, ah (bf .u8) 1 5 x5.1 (k0.length) x5.2 k0] 15 k7 (Dat (fun w S v => lu w S v ((ig L).1)) (fun k => Lt w.heap.size k ∨ x8.1.2.1 k) x8.1.1) (fun x => .tuple #[.agg (bg x.1.2.2 ((ig L).1)), .int .i64 ((ig L).2)]) (fun x => [C9 x.1.1 x.1.2.1]) ∧ ∀ x9 : Dat (fun w S v => lu w S v ((ig L).1)) (fun k => Lt w.heap.size k ∨ x8.1.2.1 k) x8.1.1,let k14 : List Fact := [C9 x9.1.1 x9.1.2.1, C9 x8.1.1 x8.1.2.1, ah (bf .u8) 1 5 x6.1 (k0.length) x6.2 k0, ah (bf .u8) 1 5 x5.1 (k0.length) x5.2 k0];  ∀ g3 : Nat, k10 = true ∧ iq Tryz.prog w k14 16 #[.agg (bg x8.1.2.2 ((ig L).1)), .agg (bg x9.1.2.2 ((ig L).1))] (.bool true) ∧ iq Tryz.prog w k14 17 k3 (.bool k1) ∧ (k1 = true → iq Tryz.prog w k14 16 k3 (.bool k1) ∧ (k1 = true → k2) ∧ (k1 = false → k4)) ∧ (k1 = false → iq Tryz.prog w k14 16 k3 (.bool k1) ∧ (k1 = true → k4) ∧ (k1 = false → k2)))) ∧ ((right s) = false → qg Tryz.prog w [] 10 k6 k11 (fun x => .tuple #[.slice x.1 0 x.2, .int .i64 1]) (fun x => []) ∧ ∀ Cc : Option Addr × Nat, iq Tryz.prog w [] 11 k6 (.bool false) ∧ iq Tryz.prog w [] 12 k6 (.int .i64 0) ∧ qg Tryz.prog w [] 14 k7 (Dat (fun w S v => lu w S v ((ig L).1)) (Lt w.heap.size) w) (fun x => .tuple #[.agg (bg x.1.2.2 ((ig L).1)), .int .i64 ((ig L).2)]) (fun x => [C9 x.1.1 x.1.2.1]) ∧ ∀ x14 : Dat (fun w S v => lu w S v ((ig L).1)) (Lt w.heap.size) w, ∀ g2 : Nat, qg Tryz.prog w [C9 x14.1.1 x14.1.2.1] 15 k7 (Dat (fun w S v => lu w S v ((ig L).1)) (fun k => Lt w.heap.size k ∨ x14.1.2.1 k) x14.1.1) (fun x => .tuple #[.agg (bg x.1.2.2 ((ig L).1)), .int .i64 ((ig L).2)]) (fun x => [C9 x.1.1 x.1.2.1]) ∧ ∀ x15 : Dat (fun w S v => lu w S v ((ig L).1)) (fun k => Lt w.heap.size k ∨ x14.1.2.1 k) x14.1.1,let k15 : List Fact := [C9 x15.1.1 x15.1.2.1, C9 x14.1.1 x14.1.2.1];  ∀ g3 : Nat, k10 = true ∧ iq Tryz.prog w k15 16 #[.agg (bg x14.1.2.2 ((ig L).1)), .agg (bg x15.1.2.2 ((ig L).1))] (.bool true) ∧ iq Tryz.prog w k15 17 k3 (.bool k1) ∧ (k1 = true → iq Tryz.prog w k15 16 k3 (.bool k1) ∧ (k1 = true → k2) ∧ (k1 = false → k4)) ∧ (k1 = false → iq Tryz.prog w k15 16 k3 (.bool k1) ∧ (k1 = true → k4) ∧ (k1 = false → k2))))) ∧ ((short t) = false → k2)) ∧ ((short s) = false → k2)) Tryz.func3 (by kernel_rfl)
 (fun g0 => fun g1 => ⟨gives q6z, ⟨qvv, fun h1 => ⟨qvv, fun h2 => ⟨fun h3 => have h3 : 9000 < ((ak L).length : Int) := (by simpa using h3)
 rfl,
 fun h3 => have h3 : ¬ 9000 < ((ak L).length : Int) := (by simpa using h3)
⟨fun h4 => ⟨(q0u (Ih h) h4), fun x5 => ⟨(qnm (Ih h) h4), ⟨(qv9 Tryz.underlying28 Tryz.underlying5 Tryz.underlying9 (j := 0) rfl), ⟨(q1d (Ih h) (uj h4)), fun x6 => ⟨rfl, (qv9 Tryz.underlying28 Tryz.underlying5 Tryz.underlying9 (j := 0) rfl), ⟨(qug _ _), ⟨(qx8 (Ih h) h4), ⟨fun h7 => have h7 : ¬ ((Ig s : Nat) : Int) = ((ak (whole s)).length : Int) := (by simpa using h7)
(absurd (q4a h4) h7),
 fun h7 => have h7 : ((Ig s : Nat) : Int) = ((ak (whole s)).length : Int) := (by simpa using h7)
⟨(qt4 (Yi (fun k hk => hk)) (fun w2 hw _ => ⟨Cm (pz _) (qrz hb) hw, hc, hlm⟩) rfl), fun x8 => fun g2 => ⟨(qrk (qj9 x8 (i := 0) rfl) (fun w2 hw _ => Cm (pz _) (qrz hb) hw) hc (by have q3 := iy L; omega)), fun x9 => fun g3 => ⟨by simp only [dq] <;> omega, ⟨(qwv (V4 x8 (Yi (fun k hk => hk)) (i := 1) rfl) (V4 x9 (qj9 x8 (i := 1) rfl) (i := 0) rfl) (decide_eq_true rfl)), ⟨(Nw (Ih h) (Ih g) rfl), fun h10 => ⟨(book.qmk (Ih h) (Ih g)), fun h11 => rfl,
 fun h11 => (absurd (h10.symm.trans h11) (by decide))⟩,
 fun h10 => ⟨(book.qmk (Ih h) (Ih g)), fun h12 => (absurd (h12.symm.trans h10) (by decide)),
 fun h12 => rfl⟩⟩⟩⟩⟩⟩⟩⟩⟩⟩⟩⟩⟩⟩,
 fun h4 => ⟨(q3i (Ih h) h4), fun Cc => ⟨(qnm (Ih h) h4), ⟨(q1c (Ih h) h4), ⟨(qt4 (Yi (fun k hk => hk)) (fun w2 hw _ => ⟨Cm (pz _) (qrz hb) hw, hc, hlm⟩) rfl), fun x14 => fun g2 => ⟨(qrk (qj9 x14 (i := 0) rfl) (fun w2 hw _ => Cm (pz _) (qrz hb) hw) hc (by have q3 := iy L; omega)), fun x15 => fun g3 => ⟨by simp only [dq] <;> omega, ⟨(qwv (V4 x14 (Yi (fun k hk => hk)) (i := 1) rfl) (V4 x15 (qj9 x14 (i := 1) rfl) (i := 0) rfl) (decide_eq_true rfl)), ⟨(Nw (Ih h) (Ih g) rfl), fun h16 => ⟨(book.qmk (Ih h) (Ih g)), fun h17 => rfl,
 fun h17 => (absurd (h16.symm.trans h17) (by decide))⟩,
 fun h16 => ⟨(book.qmk (Ih h) (Ih g)), fun h18 => (absurd (h18.symm.trans h16) (by decide)),
 fun h18 => rfl⟩⟩⟩⟩⟩⟩⟩⟩⟩⟩⟩,
 fun h2 => rfl⟩,
 fun h1 => rfl⟩⟩)
theorem zan (v : Sv) (s : St) (u : Sv) (t : St) (p2 : Option Addr) (c2 : Nat) (L : List Nat)  (w : World) (h : lu w (Lt w.heap.size) v s) (g : lu w (Lt w.heap.size) u t) (hb : Q5 w (Lt w.heap.size) p2 L) (hlm : L.length ≤ 9223372036854775807) (hc : L.length ≤ c2) : Calls Tryz.prog 3 #[.agg (bg v s), .agg (bg u t), .slice p2 L.length c2] w fun e w' => e = .returned (.bool true) ∧ Below w.heap.size w w' := by
 have := zam v s u t p2 c2 L w h g hb hlm hc
 rw [iy] at this
 exact this
-- VX ENDS
theorem walk (cs0 : Array Value) (x0 : Oc) (cs1 : Array Value) (x1 : Oc) (p2 : Option Addr) (n2 c2 : Nat) (x2 : List Nat) (w : World) (w0 : Jw w (Lt w.heap.size) cs0.toList x0) (w1 : Jw w (Lt w.heap.size) cs1.toList x1) (w2 : Ol w (Lt w.heap.size) [.slice p2 n2 c2] x2) :
  Calls Tryz.prog 3 #[.agg cs0, .agg cs1, .slice p2 n2 c2] w fun e w' => e = .returned (.bool true) ∧ Below w.heap.size w w' := by
 obtain ⟨v0, e0, h0⟩ := w0
 obtain rfl : cs0 = bg v0 x0 := by apply Array.toList_inj.1; exact e0
 obtain ⟨v1, e1, h1⟩ := w1
 obtain rfl : cs1 = bg v1 x1 := by apply Array.toList_inj.1; exact e1
 obtain ⟨A2, m2, q2, e2, hx2, hl2, hc2, hm2⟩ := w2
 obtain ⟨rfl, rfl, rfl⟩ : p2 = A2 ∧ n2 = m2 ∧ c2 = q2 := by simpa using e2
 subst hl2
 exact zan v0 x0 v1 x1 p2 c2 x2 w h0 h1 hx2 (by unfold maxLen at hm2; omega) hc2
set_option maxRecDepth 100000 in
theorem lifted (os : Os) (started : os.Started) (H : Type) (enc : TypeId × Value → H) :
  ReturnsInHanded {} Tryz.checked os 3 .any (Rows.rowRightSpec.pre6 enc Tryz.prog Tryz.f3 Rows.rowRightRow.domain false) (Rows.rowRightSpec.post enc Tryz.prog Tryz.f3 false true false false) := by
 refine returnsInHanded_of_change (C := Tryz.checked) own started (by kernel_rfl) Tryz.func3
  (ChangeSpec.witness6 (enc := enc) (C := Tryz.checked) false ⟨#[], #[.agg #[.int .i64 0, .int .i64 0, .slice none 0 0, .slice none 0 0, .slice none 0 0, .slice none 0 0, .bool false, .int .i64 0, .int .i64 0, .int .i64 0], .agg #[.int .i64 0, .int .i64 0, .slice none 0 0, .slice none 0 0, .slice none 0 0, .slice none 0 0, .bool false, .int .i64 0, .int .i64 0, .int .i64 0], .slice none 0 0], []⟩ 8 (by kernel_rfl) (by kernel_rfl) (by kernel_rfl) (by kernel_rfl)) ?_
 intro W base args ds gs before hval0 hW hcnd _
 have hval : ∀ (j : Nat) t v, Tryz.f3.params[j]? = some t → args[j]? = some v → Value.okWide Tryz.prog W .any base t v := hval0
 have hW' := hW
 obtain ⟨p, q, hA0, hV, rfl, hfz, hnd⟩ := hW
 have hA : DataW.TrodAll enc Tryz.prog W 0 (fun _ => true) true Tryz.f3.params.toList args.toList ds p := hA0
 rw [Tryz.params3] at hA hval
 obtain ⟨v0, vs0, d0, ds0, p0_, q0, hargs, rfl, rfl, h0, r0⟩ := trodAll_cons hA
 obtain ⟨v1, vs1, d1, ds1, p1_, q1, rfl, rfl, rfl, h1, r1⟩ := trodAll_cons r0
 obtain ⟨v2, vs2, d2, ds2, p2_, q2, rfl, rfl, rfl, h2, r2⟩ := trodAll_cons r1
 obtain ⟨rfl, rfl, rfl⟩ := trodAll_nil r2
 obtain rfl : args = #[v0, v1, v2] := by cases args; simp_all
 obtain ⟨rfl, rfl⟩ := trodVars_none hV
 obtain ⟨cs0, rfl, hsz0⟩ := okWide_struct Tryz.underlying27 (hval 0 27 v0 rfl rfl)
 have k0 := h0
 have lt0 : ∀ x ∈ p0_, x.block < W.heap.size := by obtain ⟨m, hm⟩ := k0; exact DataW.trod_lt m _ _ _ hm
 obtain ⟨x0, w0⟩ := qr2 qtr k0
 obtain ⟨cs1, rfl, hsz1⟩ := okWide_struct Tryz.underlying27 (hval 1 27 v1 rfl rfl)
 have k1 := h1
 have lt1 : ∀ x ∈ p1_, x.block < W.heap.size := by obtain ⟨m, hm⟩ := k1; exact DataW.trod_lt m _ _ _ hm
 obtain ⟨x1, w1⟩ := qr2 qtr k1
 obtain ⟨p2, n2, c2, rfl⟩ := okWide_slice Tryz.underlying28 (hval 2 28 v2 rfl rfl)
 have k2 := h2
 have lt2 : ∀ x ∈ p2_, x.block < W.heap.size := by obtain ⟨m, hm⟩ := k2; exact DataW.trod_lt m _ _ _ hm
 obtain ⟨x2, w2⟩ := qr2 (q1f Tryz.underlying28 Tryz.underlying5 (by kernel_rfl)) k2
 clear hA0 hval0
 refine (walk cs0 x0 cs1 x1 p2 n2 c2 x2 W w0 w1 w2).mono fun e W' ⟨he, bel⟩ => ?_
 subst he
 exact ⟨_, rfl, _, _, _, [], _, [], hW', trodAll_mk1 (shut_bool Tryz.underlying4 _), (trodAll_cons_mk (Below.trod laidOut (by kernel_rfl) (of_decide_eq_true (by kernel_rfl)) k0 bel lt0) (trodAll_cons_mk (Below.trod laidOut (by kernel_rfl) (of_decide_eq_true (by kernel_rfl)) k1 bel lt1) (trodAll_cons_mk (Below.trod laidOut (by kernel_rfl) (of_decide_eq_true (by kernel_rfl)) k2 bel lt2) trodAll_mk0))), rfl, bel.frame _, fun h => by cases h⟩
theorem over : Rows.rowRightRow.holds Tryz.pinned (OpenSpec.ofChange Rows.rowRightSpec) :=
 OpenClaim.holds_of_wide 3 Tryz.f3 rfl rfl rfl rfl rfl rfl rfl ⟨rfl, rfl, rfl, rfl, rfl⟩ rfl rfl rfl rfl rfl (by kernel_rfl) Tryz.func3 (by kernel_rfl)
  (of_decide_eq_true (by kernel_rfl)) (by unfold Func.isWrapper; first | (rw [if_pos (by decide +kernel)]; kernel_rfl) | (rw [if_neg (by decide +kernel)]; exact ⟨rfl, rfl⟩))
  (fun os started H enc _ => lifted os started H enc)
theorem proved : Rows.RowRightSaid := over
#print axioms proved
end Go.Proofs.YtbbjlfbemibfcaaGreat.rowRight
