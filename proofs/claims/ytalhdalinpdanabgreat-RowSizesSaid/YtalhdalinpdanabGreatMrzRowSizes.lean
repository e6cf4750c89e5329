/-
  PROVED: the law RowSizes answers true at every input, and leaves what it was given as it was.
  CONDITIONS: none.
-/
import Derived.Test.YtalhdalinpdanabGreatRows
import Derived.WalkKit
import Derived.ProofKit
import Derived.OpenShut
import Derived.ShutString
import Derived.ChangeOld
import Derived.Below
import Derived.Test.YtalhdalinpdanabGreatMrz04
import Derived.Test.YtalhdalinpdanabGreatMrz53
import Derived.Test.YtalhdalinpdanabGreatMrz24
set_option linter.unusedVariables false
set_option linter.unusedSimpArgs false
namespace Go.Proofs.YtalhdalinpdanabGreat.rowSizes
open Go.ChangeShapes Go.WideShapes Go.ChangeAt Go.RowKit
open Go.ChangeMaps (open_string shut_string)
open Go.Proofs.YtalhdalinpdanabGreat Go.Proofs.YtalhdalinpdanabGreat.book
open Go.Proofs.YtalhdalinpdanabGreat.order (Or open_ worth oz)
open Go.Proofs.YtalhdalinpdanabGreat.cell (Ce Ex)
open Go.Proofs.YtalhdalinpdanabGreat.rec (Rc)
theorem own : ownKnob Tryz.prog.godebug = none := by kernel_rfl
theorem laidOut : laidOutB Tryz.prog = true := by kernel_rfl
-- VX BEGINS
set_option maxRecDepth 20000
open Go.Proofs.YtalhdalinpdanabGreat.row
theorem mul_to {a y : Int} (h1 : 1 ≤ a) (h2 : 1 ≤ y) : ((a.toNat * y.toNat : Nat) : Int) = a * y := by
 rw [Int.natCast_mul, Int.toNat_of_nonneg (by omega), Int.toNat_of_nonneg (by omega)]
theorem size_len {s : St} (h : row.Lens s) : ((sizeN s : Nat) : Int) = (((36 + (8 * s.a)) + (32 * (s.a * s.y))) + (61 * (s.os.length : Int))) := by
 have e := mul_to h.a.1 h.y.1
 have h1 := h.a
 unfold sizeN
 rw [← e]
 generalize s.a.toNat * s.y.toNat = q
 omega
theorem whole_n {s : St} (h : row.Lens s) : (toI (whole s)).length = sizeN s := by
 have := told_len h
 simp [toI, whole, frame.le4]; omega
theorem whole_len {s : St} (h : row.Lens s) : (((toI (whole s)).length : Nat) : Int) = (((36 + (8 * s.a)) + (32 * (s.a * s.y))) + (61 * (s.os.length : Int))) := by rw [whole_n h]; exact size_len h
theorem whole_36 {s : St} (h : row.Lens s) : 36 ≤ (toI (whole s)).length := by rw [whole_n h]; exact (size_small h).1
theorem whole_head (s : St) : ∃ l, whole s = 115 :: 110 :: 97 :: 102 :: (frame.u s.a % 256) :: (frame.u s.y % 256) :: (frame.u (flag s.k) % 256) :: (frame.u (s.os.length : Int) % 256) :: l :=
 ⟨putB 8 [s.last, s.seq, s.lsn] ++ (s.os.flatMap ordB ++ (s.cs.flatMap ceB ++ (s.ls.flatMap exB ++ (putB 8 s.ps ++ frame.le4 (crc.more 0 (told s)))))), by
  have e : putB 1 [s.a, s.y, flag s.k, (s.os.length : Int)] = [frame.u s.a % 256, frame.u s.y % 256, frame.u (flag s.k) % 256, frame.u (s.os.length : Int) % 256] := by simp [putB, frame.be]
  unfold whole
  generalize frame.le4 (crc.more 0 (told s)) = z
  unfold told t2 t1
  rw [e]
  simp [List.append_assoc]⟩
theorem whole_at {s : St} (h : row.Lens s) : (toI (whole s)).getD 4 0 = s.a ∧ (toI (whole s)).getD 5 0 = s.y ∧ (toI (whole s)).getD 7 0 = (s.os.length : Int) := by
 obtain ⟨l, e⟩ := whole_head s
 have h1 := h.a; have h2 := h.y; have h3 := h.o
 rw [e]
 refine ⟨?_, ?_, ?_⟩
 ·show ((frame.u s.a % 256 : Nat) : Int) = s.a
  unfold frame.u; omega
 ·show ((frame.u s.y % 256 : Nat) : Int) = s.y
  unfold frame.u; omega
 ·show ((frame.u (s.os.length : Int) % 256 : Nat) : Int) = (s.os.length : Int)
  unfold frame.u; omega
theorem conv_of {P : Program} {w0 : World} {D : List Fact} {src dst : TypeId} {x y : Int} (hs : P.underlying src = some (.int .u8)) (hd : P.underlying dst = some (.int .i64)) (e : x = y) (hy : -1000 ≤ y ∧ y ≤ 1000) :
  Yields0 P w0 D (convert src dst (.int .u8 x)) (.int .i64 y) := fun w _ _ => by
 have hk' : P.intKind dst = .i64 := by simp [Program.intKind, hd]
 rw [run_convert_int w src dst .u8 _ (by rw [hs]; rfl) (by rw [hk']; exact hd), hk', e]
 exact congrArg (Result.ok · w) (wrap_is rfl (by omega) (by omega))
section
variable {w0 : World} {D : List Fact} {v : Sv} {s : St}
theorem g_enc_no (hs : ∀ w, Below w0.heap.size w0 w → All D w → InS w (Lt w.heap.size) v s) (h : right s = false) : GivesM Tryz.prog w0 D 10 #[.agg (stc v s)] (Option Addr × Nat) (fun x => .tuple #[.slice x.1 0 x.2, .int .i64 1]) (fun x => []) := fun w hw ha => by
 have h1 := l_Encode v s w (hs w hw ha)
 rw [enc_no h] at h1
 refine h1.mono ?_
 rintro e w' ⟨x, rfl, hb, _⟩
 exact ⟨x, rfl, hb, news_nil⟩
theorem g_enc_yes (hs : ∀ w, Below w0.heap.size w0 w → All D w → InS w (Lt w.heap.size) v s) (h : right s = true) : GivesM Tryz.prog w0 D 10 #[.agg (stc v s)] (Option Addr × Nat) (fun x => .tuple #[.slice x.1 (toI (whole s)).length x.2, .int .i64 0]) (fun x => [ownF (rdInt .u8) 1 5 x.1 (toI (whole s)).length x.2 (toI (whole s))]) := fun w hw ha => by
 have h1 := l_Encode v s w (hs w hw ha)
 rw [enc_yes h] at h1
 exact h1
theorem g_Size_no (hs : ∀ w, Below w0.heap.size w0 w → All D w → InS w (Lt w.heap.size) v s) (h : right s = false) : Gives Tryz.prog w0 D 12 #[.agg (stc v s)] (.int .i64 0) := fun w hw ha => by
 have h1 := l_Size v s w (hs w hw ha)
 rw [show sizeV s = 0 from if_neg (by rw [h]; decide)] at h1
 exact h1
theorem g_Size_yes (hs : ∀ w, Below w0.heap.size w0 w → All D w → InS w (Lt w.heap.size) v s) (h : right s = true) : Gives Tryz.prog w0 D 12 #[.agg (stc v s)] (.int .i64 ((sizeN s : Nat) : Int)) := fun w hw ha => by
 have h1 := l_Size v s w (hs w hw ha)
 rw [show sizeV s = (sizeN s : Int) from if_pos h] at h1
 exact h1
theorem g_right_of {b : Bool} (hs : ∀ w, Below w0.heap.size w0 w → All D w → InS w (Lt w.heap.size) v s) (h : right s = b) : Gives Tryz.prog w0 D 18 #[.agg (stc v s)] (.bool b) := by
 have h1 := i_right (D := D) hs
 rw [h] at h1
 exact h1
end
theorem walk0 (v : Sv) (s : St)  (w : World) (h : InS w (Lt w.heap.size) v s) : Calls Tryz.prog 7 #[.agg (stc v s)] w fun e w' => e = .returned (.bool true) ∧ Below w.heap.size w w' :=
 have hlen := h.len
 calls_by (fn := Tryz.f7) (r := .bool true) (t := let k0 := toI (whole s); let k1 := (36 + (8 * s.a)) + (32 * (s.a * s.y)); let k2 := (s.os.length : Int); .c (.bool true) (.cs (short s) (.gs (right s) (.cm (Option Addr × Nat) (fun x => .tuple #[.slice x.1 (k0.length) x.2, .int .i64 0]) (fun x => [ownF (rdInt .u8) 1 5 x.1 (k0.length) x.2 k0]) (fun x3 => .k (.e (.int .i64 (8 * s.a)) (.e (.int .i64 (36 + (8 * s.a))) (.e (.int .i64 (32 * s.a)) (.e (.int .i64 (32 * (s.a * s.y))) (.e (.int .i64 k1) (.e (.int .i64 (61 * k2)) (.e (.int .i64 (k1 + (61 * k2))) (.o [] (.s (.k (.c (.int .i64 ((sizeN s : Nat) : Int)) (.s (.k (.q (blkA x3.1) (offA x3.1 + 4 * 1) #[.int .u8 (k0.getD 4 0)] (.x (.int .i64 s.a) (.m true (.k (.q (blkA x3.1) (offA x3.1 + 5 * 1) #[.int .u8 (k0.getD 5 0)] (.x (.int .i64 s.y) (.m true (.k (.q (blkA x3.1) (offA x3.1 + 7 * 1) #[.int .u8 (k0.getD 7 0)] (.x (.int .i64 k2) (.m true .z)))))))))))) (.k (.k (.k .z)))))) (.k (.k (.k (.k .z))))))))))))))) (.cm (Option Addr × Nat) (fun x => .tuple #[.slice x.1 0 x.2, .int .i64 1]) (fun x => []) (fun x6 => .k (.c (.int .i64 0) (.k (.k (.k (.k (.c (.bool false) .z))))))))) .z)) (X :=
 let k0 := toI (whole s); let k9 := 36 + (8 * s.a); let k3 := k9 + (32 * (s.a * s.y)); let k2 := (s.os.length : Int); let k1 := k3 + (61 * k2); let k4 := (.bool true : Value) = .bool true; let k5 : Array Value := #[.agg (stc v s)]; let k6 := ((sizeN s : Nat) : Int); let k7 := (.bool false : Value) = .bool true; let k8 := decide ((k0.length : Int) = k1); ∀ g0 : Nat, Gives Tryz.prog w [] 8 #[] (.bool true) ∧ Gives Tryz.prog w [] 9 k5 (.bool (short s)) ∧ ((short s) = true → ((right s) = true → GivesM Tryz.prog w [] 10 k5 (Option Addr × Nat) (fun x => .tuple #[.slice x.1 (k0.length) x.2, .int .i64 0]) (fun x => [ownF (rdInt .u8) 1 5 x.1 (k0.length) x.2 k0]) ∧ ∀ x3 : Option Addr × Nat, let k10 : List Fact := [ownF (rdInt .u8) 1 5 x3.1 (k0.length) x3.2 k0]; let k11 : Value := .slice x3.1 (k0.length) x3.2; (.int .i64 (IntKind.i64.wrap (8 * s.a)) : Value) = .int .i64 (8 * s.a) ∧ (.int .i64 (IntKind.i64.wrap k9) : Value) = .int .i64 k9 ∧ (.int .i64 (IntKind.i64.wrap (32 * s.a)) : Value) = .int .i64 (32 * s.a) ∧ (.int .i64 (IntKind.i64.wrap ((32 * s.a) * s.y)) : Value) = .int .i64 (32 * (s.a * s.y)) ∧ (.int .i64 (IntKind.i64.wrap k3) : Value) = .int .i64 k3 ∧ (.int .i64 (IntKind.i64.wrap (61 * k2)) : Value) = .int .i64 (61 * k2) ∧ (.int .i64 (IntKind.i64.wrap k1) : Value) = .int .i64 k1 ∧ (k8 = true → Gives Tryz.prog w k10 12 k5 (.int .i64 k6) ∧ ((decide (k6 = k1)) = true → Yields0 Tryz.prog w k10 (Instr.indexAt 28 k11 (.int .i64 4)) (.pointer (some ⟨blkA x3.1, offA x3.1 + 4 * 1, none⟩)) ∧ Reads0 w k10 (blkA x3.1) (offA x3.1 + 4 * 1) #[.int .u8 (k0.getD 4 0)] ∧ Yields0 Tryz.prog w k10 (convert 5 3 (.int .u8 (k0.getD 4 0))) (.int .i64 s.a) ∧ (decide (s.a = s.a)) = true ∧ Yields0 Tryz.prog w k10 (Instr.indexAt 28 k11 (.int .i64 5)) (.pointer (some ⟨blkA x3.1, offA x3.1 + 5 * 1, none⟩)) ∧ Reads0 w k10 (blkA x3.1) (offA x3.1 + 5 * 1) #[.int .u8 (k0.getD 5 0)] ∧ Yields0 Tryz.prog w k10 (convert 5 3 (.int .u8 (k0.getD 5 0))) (.int .i64 s.y) ∧ (decide (s.y = s.y)) = true ∧ Yields0 Tryz.prog w k10 (Instr.indexAt 28 k11 (.int .i64 7)) (.pointer (some ⟨blkA x3.1, offA x3.1 + 7 * 1, none⟩)) ∧ Reads0 w k10 (blkA x3.1) (offA x3.1 + 7 * 1) #[.int .u8 (k0.getD 7 0)] ∧ Yields0 Tryz.prog w k10 (convert 5 3 (.int .u8 (k0.getD 7 0))) (.int .i64 k2) ∧ (decide (k2 = k2)) = true ∧ k4) ∧ ((decide (k6 = k1)) = false → k7)) ∧ (k8 = false → k7)) ∧ ((right s) = false → GivesM Tryz.prog w [] 10 k5 (Option Addr × Nat) (fun x => .tuple #[.slice x.1 0 x.2, .int .i64 1]) (fun x => []) ∧ ∀ x6 : Option Addr × Nat, Gives Tryz.prog w [] 12 k5 (.int .i64 0) ∧ Gives Tryz.prog w [] 18 k5 (.bool false) ∧ k4)) ∧ ((short s) = false → k4)) Tryz.func7 (by kernel_rfl)
 (fun g0 => ⟨gives awake13, ⟨i_short, fun h1 => ⟨fun h2 => ⟨(g_enc_yes (all_lt h) h2), fun x3 => ⟨wrap_is rfl (by have q := lens_of h2; have q1 := q.a; have q2 := q.y; have q3 := q.o; have q4 := mul_le8 q.a q.y; omega) (by have q := lens_of h2; have q1 := q.a; have q2 := q.y; have q3 := q.o; have q4 := mul_le8 q.a q.y; omega), ⟨wrap_is rfl (by have q := lens_of h2; have q1 := q.a; have q2 := q.y; have q3 := q.o; have q4 := mul_le8 q.a q.y; omega) (by have q := lens_of h2; have q1 := q.a; have q2 := q.y; have q3 := q.o; have q4 := mul_le8 q.a q.y; omega), ⟨wrap_is rfl (by have q := lens_of h2; have q1 := q.a; have q2 := q.y; have q3 := q.o; have q4 := mul_le8 q.a q.y; omega) (by have q := lens_of h2; have q1 := q.a; have q2 := q.y; have q3 := q.o; have q4 := mul_le8 q.a q.y; omega), ⟨wrap_is (Int.mul_assoc _ _ _) (by have q := lens_of h2; have q1 := q.a; have q2 := q.y; have q3 := q.o; have q4 := mul_le8 q.a q.y; omega) (by have q := lens_of h2; have q1 := q.a; have q2 := q.y; have q3 := q.o; have q4 := mul_le8 q.a q.y; omega), ⟨wrap_is rfl (by have q := lens_of h2; have q1 := q.a; have q2 := q.y; have q3 := q.o; have q4 := mul_le8 q.a q.y; omega) (by have q := lens_of h2; have q1 := q.a; have q2 := q.y; have q3 := q.o; have q4 := mul_le8 q.a q.y; omega), ⟨wrap_is rfl (by have q := lens_of h2; have q1 := q.a; have q2 := q.y; have q3 := q.o; have q4 := mul_le8 q.a q.y; omega) (by have q := lens_of h2; have q1 := q.a; have q2 := q.y; have q3 := q.o; have q4 := mul_le8 q.a q.y; omega), ⟨wrap_is rfl (by have q := lens_of h2; have q1 := q.a; have q2 := q.y; have q3 := q.o; have q4 := mul_le8 q.a q.y; omega) (by have q := lens_of h2; have q1 := q.a; have q2 := q.y; have q3 := q.o; have q4 := mul_le8 q.a q.y; omega), ⟨fun h4 => have h4 : ((toI (whole s)).length : Int) = (((36 + (8 * s.a)) + (32 * (s.a * s.y))) + (61 * (s.os.length : Int))) := (by simpa using h4)
⟨(g_Size_yes (all_lt h) h2), ⟨fun h5 => have h5 : ((sizeN s : Nat) : Int) = (((36 + (8 * s.a)) + (32 * (s.a * s.y))) + (61 * (s.os.length : Int))) := (by simpa using h5)
⟨(own_index Tryz.underlying28 info_u8 (row_at (j := 0) rfl) (by have := whole_36 (lens_of h2); show (4 : Nat) < _; omega)), (own_reads (keeps_int _) (by decide) byte_cells (row_at (j := 0) rfl) (at_getD (by have := whole_36 (lens_of h2); omega))), ⟨(conv_of Tryz.underlying5 Tryz.underlying3 (whole_at (lens_of h2)).1 (by have q := lens_of h2; have q1 := q.a; have q2 := q.y; have q3 := q.o; have q4 := mul_le8 q.a q.y; omega)), ⟨by simp only [dq] <;> omega, ⟨(own_index Tryz.underlying28 info_u8 (row_at (j := 0) rfl) (by have := whole_36 (lens_of h2); show (5 : Nat) < _; omega)), (own_reads (keeps_int _) (by decide) byte_cells (row_at (j := 0) rfl) (at_getD (by have := whole_36 (lens_of h2); omega))), ⟨(conv_of Tryz.underlying5 Tryz.underlying3 (whole_at (lens_of h2)).2.1 (by have q := lens_of h2; have q1 := q.a; have q2 := q.y; have q3 := q.o; have q4 := mul_le8 q.a q.y; omega)), ⟨by simp only [dq] <;> omega, ⟨(own_index Tryz.underlying28 info_u8 (row_at (j := 0) rfl) (by have := whole_36 (lens_of h2); show (7 : Nat) < _; omega)), (own_reads (keeps_int _) (by decide) byte_cells (row_at (j := 0) rfl) (at_getD (by have := whole_36 (lens_of h2); omega))), ⟨(conv_of Tryz.underlying5 Tryz.underlying3 (whole_at (lens_of h2)).2.2 (by have q := lens_of h2; have q1 := q.a; have q2 := q.y; have q3 := q.o; have q4 := mul_le8 q.a q.y; omega)), ⟨by simp only [dq] <;> omega, rfl⟩⟩⟩⟩⟩⟩⟩⟩⟩,
 fun h5 => have h5 : ¬ ((sizeN s : Nat) : Int) = (((36 + (8 * s.a)) + (32 * (s.a * s.y))) + (61 * (s.os.length : Int))) := (by simpa using h5)
(absurd (size_len (lens_of h2)) h5)⟩⟩,
 fun h4 => have h4 : ¬ ((toI (whole s)).length : Int) = (((36 + (8 * s.a)) + (32 * (s.a * s.y))) + (61 * (s.os.length : Int))) := (by simpa using h4)
(absurd (whole_len (lens_of h2)) h4)⟩⟩⟩⟩⟩⟩⟩⟩⟩,
 fun h2 => ⟨(g_enc_no (all_lt h) h2), fun x6 => ⟨(g_Size_no (all_lt h) h2), ⟨(g_right_of (all_lt h) h2), rfl⟩⟩⟩⟩,
 fun h1 => rfl⟩⟩)
-- VX ENDS
theorem walk (cs0 : Array Value) (x0 : StateD) (w : World) (w0 : rdState w (Lt w.heap.size) cs0.toList x0) :
  Calls Tryz.prog 7 #[.agg cs0] w fun e w' => e = .returned (.bool true) ∧ Below w.heap.size w w' := by
 obtain ⟨v0, e0, h0⟩ := w0
 obtain rfl : cs0 = stc v0 x0 := by apply Array.toList_inj.1; exact e0
 exact walk0 v0 x0 w h0
set_option maxRecDepth 100000 in
theorem lifted (os : Os) (started : os.Started) (H : Type) (enc : TypeId × Value → H) :
  ReturnsInHanded {} Tryz.checked os 7 .any (Rows.rowSizesSpec.pre6 enc Tryz.prog Tryz.f7 Rows.rowSizesRow.domain false) (Rows.rowSizesSpec.post enc Tryz.prog Tryz.f7 false true false false) := by
 refine returnsInHanded_of_change (C := Tryz.checked) own started (by kernel_rfl) Tryz.func7
  (ChangeSpec.witness6 (enc := enc) (C := Tryz.checked) false ⟨#[], #[.agg #[.int .i64 0, .int .i64 0, .slice none 0 0, .slice none 0 0, .slice none 0 0, .slice none 0 0, .bool false, .int .i64 0, .int .i64 0, .int .i64 0]], []⟩ 8 (by kernel_rfl) (by kernel_rfl) (by kernel_rfl) (by kernel_rfl)) ?_
 intro W base args ds gs before hval0 hW hcnd _
 have hval : ∀ (j : Nat) t v, Tryz.f7.params[j]? = some t → args[j]? = some v → Value.okWide Tryz.prog W .any base t v := hval0
 have hW' := hW
 obtain ⟨p, q, hA0, hV, rfl, hfz, hnd⟩ := hW
 have hA : DataW.TrodAll enc Tryz.prog W 0 (fun _ => true) true Tryz.f7.params.toList args.toList ds p := hA0
 rw [Tryz.params7] at hA hval
 obtain ⟨v0, vs0, d0, ds0, p0_, q0, hargs, rfl, rfl, h0, r0⟩ := trodAll_cons hA
 obtain ⟨rfl, rfl, rfl⟩ := trodAll_nil r0
 obtain rfl : args = #[v0] := by cases args; simp_all
 obtain ⟨rfl, rfl⟩ := trodVars_none hV
 obtain ⟨cs0, rfl, hsz0⟩ := okWide_struct Tryz.underlying27 (hval 0 27 v0 rfl rfl)
 have k0 := h0
 have lt0 : ∀ x ∈ p0_, x.block < W.heap.size := by obtain ⟨m, hm⟩ := k0; exact DataW.trod_lt m _ _ _ hm
 obtain ⟨x0, w0⟩ := of_arg of_state k0
 clear hA0 hval0
 refine (walk cs0 x0 W w0).mono fun e W' ⟨he, bel⟩ => ?_
 subst he
 exact ⟨_, rfl, _, _, _, [], _, [], hW', trodAll_mk1 (shut_bool Tryz.underlying4 _), (trodAll_cons_mk (Below.trod laidOut (by kernel_rfl) (of_decide_eq_true (by kernel_rfl)) k0 bel lt0) trodAll_mk0), rfl, bel.frame _, fun h => by cases h⟩
theorem over : Rows.rowSizesRow.holds Tryz.pinned (OpenSpec.ofChange Rows.rowSizesSpec) :=
 OpenClaim.holds_of_wide 7 Tryz.f7 rfl rfl rfl rfl rfl rfl rfl ⟨rfl, rfl, rfl, rfl, rfl⟩ rfl rfl rfl rfl rfl (by kernel_rfl) Tryz.func7 (by kernel_rfl)
  (of_decide_eq_true (by kernel_rfl)) (by unfold Func.isWrapper; first | (rw [if_pos (by decide +kernel)]; kernel_rfl) | (rw [if_neg (by decide +kernel)]; exact ⟨rfl, rfl⟩))
  (fun os started H enc _ => lifted os started H enc)
theorem proved : Rows.RowSizesSaid := over
#print axioms proved
end Go.Proofs.YtalhdalinpdanabGreat.rowSizes
