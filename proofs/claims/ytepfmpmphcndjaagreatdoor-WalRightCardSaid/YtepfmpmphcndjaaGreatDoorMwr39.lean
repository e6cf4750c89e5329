/-
  WalK2, WalR3, WalR4, WalR5, WalR6, WalR7
-/
import Derived.Test.YtepfmpmphcndjaaGreatDoorMwr37
import Derived.Test.YtepfmpmphcndjaaGreatDoorMwr11
import Derived.Test.YtepfmpmphcndjaaGreatDoorMwr26
import Derived.Test.YtepfmpmphcndjaaGreatDoorMwr27
import Derived.Test.YtepfmpmphcndjaaGreatDoorMwr34
import Derived.Test.YtepfmpmphcndjaaGreatDoorMwr36
import Derived.Test.YtepfmpmphcndjaaGreatDoorMwr40
set_option linter.unusedVariables false
set_option linter.unusedSimpArgs false
section
namespace Go.Proofs.YtepfmpmphcndjaaGreatDoor.wal
open Go.RowKit Go.Proofs.YtepfmpmphcndjaaGreatDoor Go.Proofs.YtepfmpmphcndjaaGreatDoor.frame Go.Proofs.YtepfmpmphcndjaaGreatDoor.disk
set_option maxRecDepth 20000
theorem len_put (s : Wl) (k b0 b1 b2 b3 b4 b5 : Int) : (putW s k b0 b1 b2 b3 b4 b5).1.ws.length ≤ s.ws.length + 1 := by
 unfold putW
 split
 ·simp
 ·split
  ·simp
  ·split <;> simp
theorem len_write (s : Wl) (t : DiskD) : (writeW s t).1.ws.length ≤ s.ws.length := by
 unfold writeW
 simp only
 split
 ·split
  ·show (s.ws.drop (room s)).length ≤ s.ws.length
   simp
  ·exact Nat.le_refl _
 ·exact Nat.le_refl _
theorem len_commitA : ∀ (k : Nat) (s : Wl) (t : DiskD), (commitA k s t).1.ws.length ≤ s.ws.length
 | 0, s, t => Nat.le_refl _
 |k + 1, s, t => by
  unfold commitA
  split
  ·exact Nat.le_refl _
  ·split
   ·exact Nat.le_trans (len_commitA k _ _) (len_write s t)
   ·exact len_write s t
theorem len_commit (s : Wl) (t : DiskD) : (commitL s t).1.ws.length ≤ s.ws.length := by
 unfold commitL
 split
 ·exact len_commitA _ _ _
 ·exact Nat.le_refl _
theorem name_none {n : Int} (h : ¬ (1 ≤ n ∧ n ≤ 1000000000)) : nameV n = ByteArray.empty := by unfold nameV; rw [if_neg h]
section
variable {w0 W : World} {D : List Fact} {S : Nat → Prop} {v q : Jv} {s : Wl} {u u2 : Dv} {t : DiskD}
theorem g_rsame_j (hj : ∀ w, Below w0.heap.size w0 w → All D w → InJ w (Lt w.heap.size) v s) (hq : ∀ w, Below w0.heap.size w0 w → All D w → InJ w (Lt w.heap.size) q s) (hl : s.ws.length ≤ 100000) : Gives Tryz.prog w0 D 15 #[.agg (jc v s), .agg (jc q s)] (.bool true) := fun w hw ha => by
 have := v_rsame v s q s w (hj w hw ha) (hq w hw ha) hl hl
 rw [decide_eq_true rfl] at this
 exact this
theorem g_rsame_d (hd : ∀ w, Below w0.heap.size w0 w → All D w → InD w (Lt w.heap.size) u t) (h2 : ∀ w, Below w0.heap.size w0 w → All D w → InD w (Lt w.heap.size) u2 t) : Gives Tryz.prog w0 D 18 #[.agg (dc u t), .agg (dc u2 t)] (.bool true) := fun w hw ha =>
 disk.rsame_yes u.A u2.A t.files.length u.c u2.c w.heap.size t.room t.fuse t.down t.files w (Nat.le_refl _) (hd w hw ha).files (h2 w hw ha).files rfl (Nat.le_trans (hd w hw ha).l (hd w hw ha).c)
end
end Go.Proofs.YtepfmpmphcndjaaGreatDoor.wal
end
section
namespace Go.Proofs.YtepfmpmphcndjaaGreatDoor.wal
open Go.RowKit Go.Proofs.YtepfmpmphcndjaaGreatDoor Go.Proofs.YtepfmpmphcndjaaGreatDoor.frame Go.Proofs.YtepfmpmphcndjaaGreatDoor.disk
set_option maxRecDepth 20000
theorem bytes_app (a b : List Nat) : bytes a ++ bytes b = bytes (a ++ b) := by
 apply ByteArray.ext
 rw [ByteArray.data_append]
 simp [bytes]
theorem dg_cons (m : Nat) : ∀ k, dg (k + 1) m = (48 + m / 10 ^ k % 10) :: dg k m := by
 intro k
 induction k generalizing m with
 |zero => simp [dg]
 |succ k ih =>
  rw [dg, ih (m / 10), dg, List.cons_append, Nat.div_div_eq_div_mul, Nat.pow_succ, Nat.mul_comm 10]
theorem rn_cons (m y : Nat) : bytes [48 + m / 10 ^ y % 10] ++ bytes (dg y m) = bytes (dg (y + 1) m) := by
 rw [bytes_app, dg_cons]; rfl
theorem bytes_size (l : List Nat) : (bytes l).size = l.length := by simp [bytes, ByteArray.size]
theorem rn_size (m y : Nat) (h : y ≤ 10) : (bytes [48 + m / 10 ^ y % 10]).size + (bytes (dg y m)).size ≤ 9223372036854775807 := by
 rw [bytes_size, bytes_size, dg_len, List.length_singleton]; omega
theorem rn_size2 (m y : Nat) (h : y ≤ 10) : (⟨#[108, 111, 103, 46]⟩ : ByteArray).size + (bytes (dg y m)).size ≤ 9223372036854775807 := by
 rw [bytes_size, dg_len]; exact Nat.le_trans (Nat.add_le_add_left h _) (by decide)
theorem rn_last {m y : Nat} (h : y ≤ 10) (h2 : ¬ (y : Int) < 10) : (⟨#[108, 111, 103, 46]⟩ : ByteArray) ++ bytes (dg y m) = nameOf (m : Int) := by
 obtain rfl : y = 10 := by omega
 exact bytes_app [108, 111, 103, 46] (dg 10 m)
section
variable {P : Program} {w0 : World} {D : List Fact}
theorem rem_10 {T : TypeId} {a : Nat} (ox oy : Operand) : Yields0 P w0 D (do eqGuard .rem T ox oy (.int .i64 (a : Int)) (.int .i64 10); Go.binOp .rem T (.int .i64 (a : Int)) (.int .i64 10)) (.int .i64 ((a % 10 : Nat) : Int)) := fun w _ _ => by
 have e : Int.tmod (a : Int) 10 = ((a % 10 : Nat) : Int) := by rw [show (10 : Int) = ((10 : Nat) : Int) from rfl, Int.ofNat_tmod]
 have e1 : eqGuard .rem T ox oy (.int .i64 (a : Int)) (.int .i64 10) = pure () := rfl
 have e2 : Go.binOp .rem T (.int .i64 (a : Int)) (.int .i64 10) = Op.intDiv .rem .i64 (a : Int) 10 := by simp [Go.binOp]
 rw [e1, Sem.run_bind, Sem.run_pure, Result.andThen_ok, e2]
 unfold Op.intDiv
 rw [if_neg (by decide)]
 simp only [e]
 rfl
theorem quo_10 {T : TypeId} {m y : Nat} (hm : m ≤ 9223372036854775807) (ox oy : Operand) : Yields0 P w0 D (do eqGuard .quo T ox oy (.int .i64 ((m / 10 ^ y : Nat) : Int)) (.int .i64 10); Go.binOp .quo T (.int .i64 ((m / 10 ^ y : Nat) : Int)) (.int .i64 10)) (.int .i64 ((m / 10 ^ (y + 1) : Nat) : Int)) := fun w _ _ => by
 have h1 : m / 10 ^ (y + 1) = m / 10 ^ y / 10 := by rw [Nat.pow_succ, Nat.div_div_eq_div_mul]
 have h2 : m / 10 ^ y ≤ m := Nat.div_le_self _ _
 rw [h1]
 generalize m / 10 ^ y = a at h2
 have e : Int.tdiv (a : Int) 10 = ((a / 10 : Nat) : Int) := by rw [show (10 : Int) = ((10 : Nat) : Int) from rfl, Int.ofNat_tdiv]
 have e1 : eqGuard .quo T ox oy (.int .i64 (a : Int)) (.int .i64 10) = pure () := rfl
 have e2 : Go.binOp .quo T (.int .i64 (a : Int)) (.int .i64 10) = Op.intDiv .quo .i64 (a : Int) 10 := by simp [Go.binOp]
 have e3 : IntKind.i64.wrap ((a / 10 : Nat) : Int) = ((a / 10 : Nat) : Int) := by rw [IntKind.wrap_i64]; omega
 rw [e1, Sem.run_bind, Sem.run_pure, Result.andThen_ok, e2]
 unfold Op.intDiv
 rw [if_neg (by decide)]
 simp only [e, e3]
 rfl
theorem conv_10 {src dst : TypeId} {ds : TypeDesc} {a : Nat} (hs : P.underlying src = some ds) (hd : P.underlying dst = some (.int .u8)) : Yields0 P w0 D (convert src dst (.int .i64 ((a % 10 : Nat) : Int))) (.int .u8 ((a % 10 : Nat) : Int)) := fun w _ _ => by
 have hk : P.intKind dst = .u8 := by simp [Program.intKind, hd]
 have h : IntKind.u8.wrap ((a % 10 : Nat) : Int) = ((a % 10 : Nat) : Int) := by rw [IntKind.wrap_u8]; omega
 rw [run_convert_int w src dst .i64 _ (by rw [hs]; rfl) (by rw [hk]; exact hd), hk, h]
theorem add_48 (a : Nat) : (.int .u8 (IntKind.u8.wrap (48 + ((a % 10 : Nat) : Int))) : Value) = .int .u8 ((48 + a % 10 : Nat) : Int) := by
 have h : IntKind.u8.wrap (48 + ((a % 10 : Nat) : Int)) = ((48 + a % 10 : Nat) : Int) := by rw [IntKind.wrap_u8]; omega
 rw [h]
theorem conv_str {src e dst : TypeId} {T : TypeId} {g a : Nat} (hs : P.underlying src = some (.slice e)) (he : P.underlying e = some (.int .u8)) (hd : P.underlying dst = some .string) (hb : ∀ w, All D w → w.heap[g]? = some (.cells #[.int .u8 ((48 + a % 10 : Nat) : Int)] T (0, 0))) :
  Yields0 P w0 D (convert src dst (.slice (some ⟨g, 0, none⟩) 1 1)) (.string (bytes [48 + a % 10])) := fun w _ ha => by
 have h := hb w ha
 have hB : Bys w w.heap.size (some ⟨g, 0, none⟩) [48 + a % 10] := by
  refine ⟨fun x hx => ?_, fun _ => ⟨g, 0, rfl, (Array.getElem?_eq_some_iff.1 h).1, fun j hj => ?_⟩⟩
  ·simp [toI] at hx; subst hx; exact (wf_u8 (48 + a % 10)).2 (by omega)
  ·have : j = 0 := by simp [toI] at hj; omega
   subst this
   exact (block_cell h 0 _ rfl).1
 exact run_bys_string hB rfl src e dst hs he hd
end
theorem v_rname0 (m : Nat)  (w : World) (hm : m ≤ 9223372036854775807) : Calls Tryz.prog 23 #[.int .i64 (m : Int)] w fun e w' => e = .returned (.string (nameOf (m : Int))) ∧ Below w.heap.size w w' :=
 calls_by (fn := Tryz.f23) (r := .string (nameOf (m : Int))) (t := .l (Nat) (fun x => [(0, .int .i64 ((m / 10 ^ x : Nat) : Int), none), (3, .string (bytes (dg x m)), none), (4, .int .i64 (x : Int), none)]) (fun x => []) [] [] (fun x => []) (fun x => x ≤ 10) (fun x => 10 - x) (0 : Nat) (fun y1 => let k0 := ((48 + m / 10 ^ y1 % 10 : Nat) : Int); let k1 := ((m / 10 ^ y1 % 10 : Nat) : Int); .s (.x (.int .i64 k1) (.x (.int .u8 k1) (.e (.int .u8 k0) (.w (Nat) none (fun x => .slice (some ⟨x, 0, none⟩) 1 1) (fun x => [cellsF x #[.int .u8 k0] 5]) (fun x5 => .x (.string (bytes [48 + m / 10 ^ y1 % 10])) (.x (.string (bytes (dg (y1 + 1) m))) (.x (.int .i64 ((m / 10 ^ (y1 + 1) : Nat) : Int)) (.e (.int .i64 ((y1 + 1 : Nat) : Int)) .z)))))))) (.x (.string (nameOf (m : Int))) .z))) (X :=
 let k0 : Value := .string (⟨#[108, 111, 103, 46]⟩); let k1 : Value := .int .i64 10; let k2 := nameOf (m : Int); let k3 := ([] : List (Option Blk)); Brings w [] [] ∧ ((0 : Nat) ≤ 10) ∧ (([.int .i64 (m : Int), .string ByteArray.empty, .int .i64 0] : List Value) = [.int .i64 ((m / 10 ^ (0 : Nat) : Nat) : Int), .string (bytes (dg (0 : Nat) m)), .int .i64 ((0 : Nat) : Int)] ∧ k3 = [] ∧ Turns w [] []) ∧ true = true ∧ ∀ (y1 : Nat), let k4 := ((48 + m / 10 ^ y1 % 10 : Nat) : Int); let k5 : Value := .int .i64 ((m / 10 ^ y1 : Nat) : Int); let k6 := ((m / 10 ^ y1 % 10 : Nat) : Int); let k7 : Value := .string (bytes [48 + m / 10 ^ y1 % 10]); let k8 : Value := .string (bytes (dg y1 m)); let k9 := ((m / 10 ^ (y1 + 1) : Nat) : Int); let k10 := decide ((y1 : Int) < 10); (y1 ≤ 10) → ∀ τ3 : Nat → Value, (k10 = true → Yields0 Tryz.prog w [] (do eqGuard BinOp.rem 2 (.tmp 9) (.const k1) k5 k1; Go.binOp BinOp.rem 2 k5 k1) (.int .i64 k6) ∧ Yields0 Tryz.prog w [] (convert 2 5 (.int .i64 k6)) (.int .u8 k6) ∧ (.int .u8 (IntKind.u8.wrap (48 + k6)) : Value) = .int .u8 k4 ∧ StepM Tryz.prog w [] (Instr.buildSlice 62 1 #[(0, .int .u8 k4)]) (fun _ => False) (Nat) (fun x => .slice (some ⟨x, 0, none⟩) 1 1) (fun x => [cellsF x #[.int .u8 k4] 5]) ∧ ∀ x5 : Nat, let k11 : List Fact := [cellsF x5 #[.int .u8 k4] 5]; Yields0 Tryz.prog w k11 (convert 62 9 (.slice (some ⟨x5, 0, none⟩) 1 1)) k7 ∧ Yields0 Tryz.prog w k11 (do eqGuard BinOp.add 9 (.tmp 14) (.tmp 15) k7 k8; Go.binOp BinOp.add 9 k7 k8) (.string (bytes (dg (y1 + 1) m))) ∧ Yields0 Tryz.prog w k11 (do eqGuard BinOp.quo 2 (.tmp 17) (.const k1) k5 k1; Go.binOp BinOp.quo 2 k5 k1) (.int .i64 k9) ∧ (.int .i64 (IntKind.i64.wrap ((y1 : Int) + 1)) : Value) = .int .i64 ((y1 + 1 : Nat) : Int) ∧ ∃ x' : Nat, (x' ≤ 10) ∧ (10 - x' < 10 - y1) ∧ (([.int .i64 k9, .string (bytes (dg (y1 + 1) m)), .int .i64 ((y1 + 1 : Nat) : Int)] : List Value) = [.int .i64 ((m / 10 ^ x' : Nat) : Int), .string (bytes (dg x' m)), .int .i64 (x' : Int)] ∧ k3 = [] ∧ Turns w k11 []) ∧ true = true) ∧ (k10 = false → Yields0 Tryz.prog w [] (do eqGuard BinOp.add 9 (.const k0) (.tmp 19) k0 k8; Go.binOp BinOp.add 9 k0 k8) (.string k2) ∧ ((.string k2 : Value) = .string k2))) Tryz.func23 (by kernel_rfl)
 (⟨(fun w _ _ => news_nil), (Nat.zero_le _), ⟨(by rw [Nat.pow_zero, Nat.div_one]; rfl), rfl, (turns_sub (List.nil_sublist _))⟩, rfl, fun y1 I2 τ3 => ⟨fun h4 => have h4 : (y1 : Int) < 10 := (by simpa using h4)
⟨(rem_10 _ _), ⟨(conv_10 Tryz.underlying2 Tryz.underlying5), ⟨(add_48 _), ⟨(build_step2 (by kernel_rfl) (fun g => by kernel_rfl)), fun x5 => ⟨(conv_str Tryz.underlying62 Tryz.underlying5 Tryz.underlying9 (block_at (j := 0) rfl)), ⟨(str_add (rn_cons m y1) (rn_size m y1 I2) _ _), ⟨(quo_10 hm _ _), ⟨wrap_is (by omega) (by omega) (by omega), ⟨((y1 + 1) : Nat), (by omega), (by omega), ⟨rfl, rfl, (turns_sub (List.nil_sublist _))⟩, rfl⟩⟩⟩⟩⟩⟩⟩⟩⟩,
 fun h4 => have h4 : ¬ (y1 : Int) < 10 := (by simpa using h4)
⟨(str_add (rn_last I2 (by omega)) (rn_size2 _ _ I2) _ _), rfl⟩⟩⟩)
theorem v_rname (n : Int) (hn : 0 ≤ n) (hi : inI n) (w : World) : Calls Tryz.prog 23 #[.int .i64 n] w fun e w' => e = .returned (.string (nameOf n)) ∧ Below w.heap.size w w' := by
 obtain ⟨m, rfl⟩ := Int.eq_ofNat_of_zero_le hn
 exact v_rname0 m w (by unfold inI at hi; omega)
end Go.Proofs.YtepfmpmphcndjaaGreatDoor.wal
end
section
namespace Go.Proofs.YtepfmpmphcndjaaGreatDoor.wal
open Go.RowKit Go.Proofs.YtepfmpmphcndjaaGreatDoor Go.Proofs.YtepfmpmphcndjaaGreatDoor.frame Go.Proofs.YtepfmpmphcndjaaGreatDoor.disk
set_option maxRecDepth 20000
def ch (nm : ByteArray) (y : Nat) : Nat := (listOf nm).getD y 0
def val4 (nm : ByteArray) (y : Nat) : Nat := value (((listOf nm).take y).drop 4)
abbrev DigI (nm : ByteArray) (y : Nat) : Prop := 4 ≤ y ∧ y ≤ 14 ∧ ∀ j, 4 ≤ j → j < y → 48 ≤ ch nm j ∧ ch nm j ≤ 57
theorem listOf_len (nm : ByteArray) : (listOf nm).length = nm.size := by
 unfold listOf; rw [List.length_map, Array.length_toList]; rfl
section
variable {nm : ByteArray} {y : Nat}
theorem val4_4 : val4 nm 4 = 0 := by
 unfold val4
 rw [List.drop_eq_nil_of_le (by rw [List.length_take]; exact Nat.min_le_left _ _)]; rfl
theorem val4_next (h : (nm.size : Int) = 14) (h1 : 4 ≤ y) (h2 : y < 14) : val4 nm (y + 1) = val4 nm y * 10 + (ch nm y - 48) := by
 have hl := listOf_len nm
 unfold val4 ch
 rw [List.take_add_one, List.getElem?_eq_getElem (by omega), List.drop_append_of_le_length (by rw [List.length_take]; omega)]
 simp only [Option.toList_some]
 rw [value_snoc, List.getD_eq_getElem?_getD, List.getElem?_eq_getElem (by omega)]; rfl
theorem val4_lt (h : (nm.size : Int) = 14) (hI : DigI nm y) : val4 nm y < 10000000000 := by
 have hl := listOf_len nm
 have hd : (((listOf nm).take y).drop 4).all digit = true := by
  rw [List.all_eq_true]
  intro x hx
  obtain ⟨k, hk, rfl⟩ := List.getElem_of_mem hx
  rw [List.length_drop, List.length_take] at hk
  have := hI.2.2 (4 + k) (by omega) (by omega)
  unfold ch at this
  rw [List.getD_eq_getElem?_getD, List.getElem?_eq_getElem (by omega)] at this
  rw [List.getElem_drop, List.getElem_take]
  simp only [digit, Bool.and_eq_true, decide_eq_true_eq]
  exact this
 have h1 := (value_dg _ hd).2
 rw [List.length_drop, List.length_take] at h1
 have h2 : 10 ^ (min y (listOf nm).length - 4) ≤ 10 ^ 10 := Nat.pow_le_pow_right (by decide) (by have := hI.2.1; omega)
 exact Nat.lt_of_lt_of_le h1 h2
theorem dig_step (h : ∀ j, 4 ≤ j → j < y → 48 ≤ ch nm j ∧ ch nm j ≤ 57) (h1 : 48 ≤ ch nm y) (h2 : ch nm y ≤ 57) : ∀ j, 4 ≤ j → j < y + 1 → 48 ≤ ch nm j ∧ ch nm j ≤ 57 := fun j h3 h4 => by
 rcases Nat.lt_or_ge j y with h5 | h5
 ·exact h j h3 h5
 ·rw [show j = y by omega]; exact ⟨h1, h2⟩
theorem ext_take (nm : ByteArray) : listOf (nm.extract 0 4) = (listOf nm).take 4 := by
 unfold listOf
 rw [ByteArray.data_extract, Array.toList_extract, List.extract_eq_take_drop, ← List.map_take]
 rfl
theorem pre_no (h : ¬ nm.extract 0 4 = ⟨#[108, 111, 103, 46]⟩) : ¬ (listOf nm).take 4 = [108, 111, 103, 46] := fun e => h (by
 rw [← bytes_listOf (nm.extract 0 4), ext_take, e]; rfl)
theorem pre_yes (h : nm.extract 0 4 = ⟨#[108, 111, 103, 46]⟩) : (listOf nm).take 4 = [108, 111, 103, 46] := by
 rw [← ext_take, h]; rfl
theorem nu_no (h : ¬ (nm.size : Int) = 14 ∨ ¬ (listOf nm).take 4 = [108, 111, 103, 46] ∨ (∃ y, 4 ≤ y ∧ y < 14 ∧ ¬ (48 ≤ ch nm y ∧ ch nm y ≤ 57))) : numOf nm = 0 := by
 have hl := listOf_len nm
 unfold numOf numL
 rw [if_neg]; rfl
 rintro ⟨h1, h2, h3, _⟩
 rcases h with h | h | ⟨y, h4, h5, h6⟩
 ·omega
 ·exact h h2
 ·rw [List.all_eq_true] at h3
  have := h3 (listOf nm)[y] (by
   have : (listOf nm)[y] = ((listOf nm).drop 4)[y - 4]'(by rw [List.length_drop]; omega) := by
    rw [List.getElem_drop]; congr 1; omega
   rw [this]; exact List.getElem_mem _)
  simp only [digit, Bool.and_eq_true, decide_eq_true_eq] at this
  unfold ch at h6
  rw [List.getD_eq_getElem?_getD, List.getElem?_eq_getElem (by omega)] at h6
  exact h6 this
theorem nu_all (h : (nm.size : Int) = 14) (hI : DigI nm y) (hy : ¬ (y : Int) < 14) : ((listOf nm).drop 4).all digit = true ∧ value ((listOf nm).drop 4) = val4 nm y := by
 have hl := listOf_len nm
 obtain rfl : y = 14 := by have := hI.2.1; omega
 refine ⟨?_, by unfold val4; rw [List.take_of_length_le (by omega)]⟩
 rw [List.all_eq_true]
 intro x hx
 obtain ⟨k, hk, rfl⟩ := List.getElem_of_mem hx
 rw [List.length_drop] at hk
 have := hI.2.2 (4 + k) (by omega) (by omega)
 unfold ch at this
 rw [List.getD_eq_getElem?_getD, List.getElem?_eq_getElem (by omega)] at this
 rw [List.getElem_drop]
 simp only [digit, Bool.and_eq_true, decide_eq_true_eq]
 exact this
theorem nu_yes (h : (nm.size : Int) = 14) (hp : (listOf nm).take 4 = [108, 111, 103, 46]) (hI : DigI nm y) (hy : ¬ (y : Int) < 14) (hb : ¬ 1000000000 < ((val4 nm y : Nat) : Int)) : numOf nm = ((val4 nm y : Nat) : Int) := by
 have hl := listOf_len nm
 obtain ⟨h1, h2⟩ := nu_all h hI hy
 unfold numOf numL
 rw [if_pos ⟨by omega, hp, h1, by rw [h2]; omega⟩, h2]
theorem nu_big (h : (nm.size : Int) = 14) (hp : (listOf nm).take 4 = [108, 111, 103, 46]) (hI : DigI nm y) (hy : ¬ (y : Int) < 14) (hb : 1000000000 < ((val4 nm y : Nat) : Int)) : numOf nm = 0 := by
 obtain ⟨h1, h2⟩ := nu_all h hI hy
 unfold numOf numL
 rw [if_neg]; rfl
 rintro ⟨_, _, _, h4⟩
 rw [h2] at h4; omega
variable {P : Program} {w0 : World} {D : List Fact}
theorem slice_4 {T : TypeId} (ht : P.underlying T = some .string) (h : (nm.size : Int) = 14) : Yields0 P w0 D (Instr.sliceAt T (.string nm) none (some (.int .i64 4)) none) (.string (nm.extract 0 4)) := fun w _ _ => by
 rw [run_sliceAt_string w T _ _ _ _ ht]
 have := run_slice_string_h (P := P) w T nm ht .i64 4 (by omega) (by omega)
 simpa using this
theorem index_ch {T : TypeId} (ht : P.underlying T = some .string) (h : y < nm.size) : Yields0 P w0 D (Instr.index T (.string nm) (.int .i64 (y : Int))) (.int .u8 ((ch nm y : Nat) : Int)) := fun w _ _ => by
 rw [run_index_string w T nm .i64 (y : Int) ht]
 have hl := listOf_len nm
 have e : ch nm y = (nm[y]'h).toNat := by
  unfold ch
  rw [List.getD_eq_getElem?_getD, List.getElem?_eq_getElem (by omega)]
  simp [listOf, ByteArray.getElem_eq_getElem_data]
 simp [e, h]
theorem sub_48 {a : Nat} (h1 : 48 ≤ a) (h2 : a ≤ 57) : (.int .u8 (IntKind.u8.wrap (((a : Nat) : Int) - 48)) : Value) = .int .u8 ((a - 48 : Nat) : Int) := by
 have h : IntKind.u8.wrap (((a : Nat) : Int) - 48) = ((a - 48 : Nat) : Int) := by rw [IntKind.wrap_u8]; omega
 rw [h]
theorem conv_48 {src dst : TypeId} {ds : TypeDesc} {a : Nat} (hs : P.underlying src = some ds) (hd : P.underlying dst = some (.int .i64)) (ha : a ≤ 57) : Yields0 P w0 D (convert src dst (.int .u8 ((a - 48 : Nat) : Int))) (.int .i64 ((a - 48 : Nat) : Int)) := fun w _ _ => by
 have hk : P.intKind dst = .i64 := by simp [Program.intKind, hd]
 have h : IntKind.i64.wrap ((a - 48 : Nat) : Int) = ((a - 48 : Nat) : Int) := by rw [IntKind.wrap_i64]; omega
 rw [run_convert_int w src dst .u8 _ (by rw [hs]; rfl) (by rw [hk]; exact hd), hk, h]
end
theorem v_rnumber (nm : ByteArray)  (w : World) : Calls Tryz.prog 47 #[.string nm] w fun e w' => e = .returned (.int .i64 (numOf nm)) ∧ Below w.heap.size w w' :=
 calls_by (fn := Tryz.f47) (r := .int .i64 (numOf nm)) (t := .s (.k .z) (.k (.x (.string (nm.extract 0 4)) (.xs (!decide ((nm.extract 0 4) = ⟨#[108, 111, 103, 46]⟩)) .z (.l (Nat) (fun x => [(0, .string nm, none), (3, .int .i64 ((val4 nm x : Nat) : Int), none), (4, .int .i64 (x : Int), none)]) (fun x => []) [] [] (fun x => []) (fun x => 4 ≤ x ∧ x ≤ 14 ∧ ∀ j, 4 ≤ j → j < x → 48 ≤ ch nm j ∧ ch nm j ≤ 57) (fun x => 14 - x) (4 : Nat) (fun y3 => let k0 : Value := .int .u8 (((ch nm y3) : Nat) : Int); let k1 := (((ch nm y3) - 48 : Nat) : Int); .s (.x k0 (.s (.k .z) (.k (.x k0 (.s .z (.e (.int .i64 ((val4 nm y3 * 10 : Nat) : Int)) (.x k0 (.e (.int .u8 k1) (.x (.int .i64 k1) (.e (.int .i64 ((val4 nm (y3 + 1) : Nat) : Int)) (.e (.int .i64 ((y3 + 1 : Nat) : Int)) .z))))))))))) (.s .z .z))))))) (X :=
 let k0 := (.int .i64 0 : Value) = .int .i64 (numOf nm); let k1 := nm.extract 0 4; let k2 : Value := .string (⟨#[108, 111, 103, 46]⟩); let k3 := !decide ((nm.size : Int) = 14); let k4 := ([] : List (Option Blk)); (k3 = true → k0) ∧ (k3 = false → Yields0 Tryz.prog w [] (Instr.sliceAt 9 (.string nm) none (some (.int .i64 4)) none) (.string k1) ∧ Yields0 Tryz.prog w [] (do eqGuard BinOp.neq 9 (.tmp 10) (.const k2) (.string k1) k2; Go.binOp BinOp.neq 9 (.string k1) k2) (.bool (!decide (k1 = ⟨#[108, 111, 103, 46]⟩))) ∧ ((!decide (k1 = ⟨#[108, 111, 103, 46]⟩)) = true → k0) ∧ ((!decide (k1 = ⟨#[108, 111, 103, 46]⟩)) = false → Brings w [] [] ∧ (4 ≤ (4 : Nat) ∧ (4 : Nat) ≤ 14 ∧ ∀ j, 4 ≤ j → j < (4 : Nat) → 48 ≤ ch nm j ∧ ch nm j ≤ 57) ∧ (([.string nm, .int .i64 0, .int .i64 4] : List Value) = [.string nm, .int .i64 ((val4 nm (4 : Nat) : Nat) : Int), .int .i64 ((4 : Nat) : Int)] ∧ k4 = [] ∧ Turns w [] []) ∧ true = true ∧ ∀ (y3 : Nat), let k5 := (((ch nm y3) : Nat) : Int); let k6 := Instr.index 9 (.string nm) (.int .i64 (y3 : Int)); let k7 := (((ch nm y3) - 48 : Nat) : Int); let k8 := ((val4 nm y3 : Nat) : Int); let k9 := ((val4 nm (y3 + 1) : Nat) : Int); let k10 := ((val4 nm y3 * 10 : Nat) : Int); let k11 := decide ((y3 : Int) < 14); let k12 := decide (k8 > 1000000000); (4 ≤ y3 ∧ y3 ≤ 14 ∧ ∀ j, 4 ≤ j → j < y3 → 48 ≤ ch nm j ∧ ch nm j ≤ 57) → ∀ τ5 : Nat → Value, (k11 = true → Yields0 Tryz.prog w [] k6 (.int .u8 k5) ∧ ((decide (k5 < 48)) = true → k0) ∧ ((decide (k5 < 48)) = false → Yields0 Tryz.prog w [] k6 (.int .u8 k5) ∧ ((decide (k5 > 57)) = true → k0) ∧ ((decide (k5 > 57)) = false → (.int .i64 (IntKind.i64.wrap (k8 * 10)) : Value) = .int .i64 k10 ∧ Yields0 Tryz.prog w [] k6 (.int .u8 k5) ∧ (.int .u8 (IntKind.u8.wrap (k5 - 48)) : Value) = .int .u8 k7 ∧ Yields0 Tryz.prog w [] (convert 5 2 (.int .u8 k7)) (.int .i64 k7) ∧ (.int .i64 (IntKind.i64.wrap (k10 + k7)) : Value) = .int .i64 k9 ∧ (.int .i64 (IntKind.i64.wrap ((y3 : Int) + 1)) : Value) = .int .i64 ((y3 + 1 : Nat) : Int) ∧ ∃ x' : Nat, (4 ≤ x' ∧ x' ≤ 14 ∧ ∀ j, 4 ≤ j → j < x' → 48 ≤ ch nm j ∧ ch nm j ≤ 57) ∧ (14 - x' < 14 - y3) ∧ (([.string nm, .int .i64 k9, .int .i64 ((y3 + 1 : Nat) : Int)] : List Value) = [.string nm, .int .i64 ((val4 nm x' : Nat) : Int), .int .i64 (x' : Int)] ∧ k4 = [] ∧ Turns w [] []) ∧ true = true))) ∧ (k11 = false → (k12 = true → k0) ∧ (k12 = false → ((.int .i64 k8 : Value) = .int .i64 (numOf nm))))))) Tryz.func47 (by kernel_rfl)
 (⟨fun h1 => have h1 : ¬ (nm.size : Int) = 14 := (by simpa using h1)
(by rw [nu_no (.inl (by omega))]),
 fun h1 => have h1 : (nm.size : Int) = 14 := (by simpa using h1)
⟨(slice_4 Tryz.underlying9 h1), ⟨(str_neq _ _), fun h2 => (by rw [nu_no (.inr (.inl (pre_no (by simpa using h2))))]),
 fun h2 => ⟨(fun w _ _ => news_nil), ⟨Nat.le_refl _, by decide, fun j h1 h2 => absurd h1 (by omega)⟩, ⟨(by rw [val4_4]; rfl), rfl, (turns_sub (List.nil_sublist _))⟩, rfl, fun y3 I4 τ5 => ⟨fun h6 => have h6 : (y3 : Int) < 14 := (by simpa using h6)
⟨(index_ch Tryz.underlying9 (by omega)), ⟨fun h7 => have h7 : (((ch nm y3) : Nat) : Int) < 48 := (by simpa using h7)
(by rw [nu_no (.inr (.inr ⟨y3, by omega, by omega, by omega⟩))]),
 fun h7 => have h7 : ¬ (((ch nm y3) : Nat) : Int) < 48 := (by simpa using h7)
⟨(index_ch Tryz.underlying9 (by omega)), ⟨fun h8 => have h8 : 57 < (((ch nm y3) : Nat) : Int) := (by simpa using h8)
(by rw [nu_no (.inr (.inr ⟨y3, by omega, by omega, by omega⟩))]),
 fun h8 => have h8 : ¬ 57 < (((ch nm y3) : Nat) : Int) := (by simpa using h8)
⟨wrap_is (by omega) (by omega) (by have := val4_lt h1 I4; omega), ⟨(index_ch Tryz.underlying9 (by omega)), ⟨(sub_48 (by omega) (by omega)), ⟨(conv_48 Tryz.underlying5 Tryz.underlying2 (by omega)), ⟨wrap_is (by rw [val4_next h1 (by omega) (by omega)]; omega) (by omega) (by have := val4_lt h1 I4; rw [val4_next h1 (by omega) (by omega)]; omega), ⟨wrap_is rfl (by omega) (by omega), ⟨((y3 + 1) : Nat), ⟨by omega, by omega, dig_step I4.2.2 (by omega) (by omega)⟩, (by omega), ⟨rfl, rfl, (turns_sub (List.nil_sublist _))⟩, rfl⟩⟩⟩⟩⟩⟩⟩⟩⟩⟩⟩,
 fun h6 => have h6 : ¬ (y3 : Int) < 14 := (by simpa using h6)
⟨fun h9 => have h9 : 1000000000 < ((val4 nm y3 : Nat) : Int) := (by simpa using h9)
(by rw [nu_big h1 (pre_yes (by simpa using h2)) I4 (by omega) (by omega)]),
 fun h9 => have h9 : ¬ 1000000000 < ((val4 nm y3 : Nat) : Int) := (by simpa using h9)
(by rw [nu_yes h1 (pre_yes (by simpa using h2)) I4 (by omega) (by omega)])⟩⟩⟩⟩⟩⟩)
end Go.Proofs.YtepfmpmphcndjaaGreatDoor.wal
end
section
namespace Go.Proofs.YtepfmpmphcndjaaGreatDoor.wal
open Go.RowKit Go.Proofs.YtepfmpmphcndjaaGreatDoor Go.Proofs.YtepfmpmphcndjaaGreatDoor.frame Go.Proofs.YtepfmpmphcndjaaGreatDoor.disk
set_option maxRecDepth 20000
section
variable {w0 : World} {D : List Fact} {v : Dv} {s : DiskD}
theorem g_rright (h : InD w0 (Lt w0.heap.size) v s) (hs : shortB s.files = true) : Gives Tryz.prog w0 D 46 #[.agg (dc v s)] (.bool (rightB s)) := fun w hw _ =>
 have h1 := h.later hw
 disk.rright v.A s.files.length v.c s.room s.fuse s.down s.files w h1.files rfl (Nat.le_trans h1.l h1.c) h1.r h1.u
theorem seg_ref {w w1 : World} {S : Nat → Prop} {A : Option Addr} {c k : Nat} (h : InD w1 S v s) (hI : k = 0 ∨ rightB s = true) (hk : v.rs.length ≤ k ∨ rightB s = false) : ∃ x : Option Addr × Nat, (.slice A (segL (v.rs.take k)).length c : Value) = .slice x.1 (segs s).length x.2 ∧ Turns w [ownF (rdInt .i64) 1 2 A (segL (v.rs.take k)).length c (segL (v.rs.take k))] [ownF (rdInt .i64) 1 2 x.1 (segs s).length x.2 (segs s)] := by
 have e : segs s = segL (v.rs.take k) := by
  cases hr : rightB s with
  |true =>
   rw [hr] at hk
   rw [segs_raw h hr, List.take_of_length_le (hk.resolve_right (by simp))]
  |false =>
   rw [hr] at hI
   obtain rfl := hI.resolve_right (by simp)
   unfold segs
   rw [if_neg (by rw [hr]; simp)]; rfl
 rw [e]
 exact ⟨(A, c), rfl, turns_sub (List.Sublist.refl _)⟩
end
theorem v_rsegments (v : Dv) (s : DiskD)  (w : World) (h : InD w (Lt w.heap.size) v s) (hs : shortB s.files = true) : Calls Tryz.prog 22 #[.agg (dc v s)] w fun e w' => ∃ x : Option Addr × Nat, e = .returned (.slice x.1 (segs s).length x.2) ∧ Below w.heap.size w w' ∧ News (fun _ => False) w.heap.size ([ownF (rdInt .i64) 1 2 x.1 (segs s).length x.2 (segs s)]) w' :=
 have hlen := h.len
 have h70 := (short_iff.1 hs).1
 calls_mem (fn := Tryz.f22) (r := fun (x : Option Addr × Nat) => .slice x.1 (segs s).length x.2) (fs := fun (x : Option Addr × Nat) => [ownF (rdInt .i64) 1 2 x.1 (segs s).length x.2 (segs s)]) (t := let k0 := Option Addr × Nat; .l (Nat × k0) (fun x => [(1, undef, some (0, 0)), (3, .slice x.2.1 ((segL (v.rs.take x.1)).length) x.2.2, none), (4, .int .i64 (x.1 : Int), none)]) (fun x => []) [0] [ownF (rdInt .i64) 1 2 none 0 0 ([])] (fun x => [ownF (rdInt .i64) 1 2 x.2.1 ((segL (v.rs.take x.1)).length) x.2.2 (segL (v.rs.take x.1))]) (fun x => x.1 ≤ v.rs.length ∧ (x.1 = 0 ∨ rightB s = true)) (fun x => v.rs.length - x.1) ((0, (none, 0)) : Nat × k0) (fun y1 => let k1 := segL (v.rs.take (y1.1 + 1)); let k2 := v.rs.getD y1.1 rz; let k3 : Value := .int .i64 ((y1.1 + 1 : Nat) : Int); .s (.k (.cs (rightB s) (.p (blkA v.A) (offA v.A + y1.1 * 3) (rfc k2) (.c (.int .i64 (numOf k2.f.name)) (.s (.w (Nat) none (fun x => .slice (some ⟨x, 0, none⟩) 1 1) (fun x => [cellsF x #[.int .i64 (numOf k2.f.name)] 2]) (fun x7 => .w k0 (some 1) (fun x => .slice x.1 (k1.length) x.2) (fun x => [ownF (rdInt .i64) 1 2 x.1 (k1.length) x.2 k1]) (fun x8 => .e k3 .z))) (.e k3 .z)))) .z)) (.k .z))) (X :=
 let k1 := Option Addr × Nat; let k0 := ((0, (none, 0)) : Nat × k1); let k2 := segL (v.rs.take k0.1); let k3 : List Fact := [ownF (rdInt .i64) 1 2 none 0 0 ([])]; ∀ g0 : Nat, let k4 := ([some ⟨g0, 0, (dc v s), .own 27⟩] : List (Option Blk)); let k5 : Option Addr := some ⟨g0, 0, none⟩; Brings w [] k3 ∧ (k0.1 ≤ v.rs.length ∧ (k0.1 = 0 ∨ rightB s = true)) ∧ (([.pointer k5, .slice none 0 0, .int .i64 0] : List Value) = [.pointer k5, .slice (k0.2.1) (k2.length) (k0.2.2), .int .i64 (k0.1 : Int)] ∧ k4 = [some ⟨g0, 0, (dc v s), .own 27⟩] ∧ Turns w k3 [ownF (rdInt .i64) 1 2 (k0.2.1) (k2.length) (k0.2.2) k2]) ∧ true = true ∧ ∀ (y1 : Nat × k1), let k8 := segL (v.rs.take y1.1); let k6 : List Fact := [ownF (rdInt .i64) 1 2 y1.2.1 (k8.length) y1.2.2 k8]; let k14 := v.rs.getD y1.1 rz; let k7 := numOf k14.f.name; let k9 := segL (v.rs.take (y1.1 + 1)); let k10 := ((y1.1 + 1 : Nat) : Int); let k11 := (.int .i64 (IntKind.i64.wrap ((y1.1 : Int) + 1)) : Value); let k12 := decide ((y1.1 : Int) < (s.files.length : Int)); let k13 := (.slice y1.2.1 (k8.length) y1.2.2 : Value); (y1.1 ≤ v.rs.length ∧ (y1.1 = 0 ∨ rightB s = true)) → ∀ τ3 : Nat → Value, (k12 = true → Gives Tryz.prog w k6 46 #[.agg (dc v s)] (.bool (rightB s)) ∧ ((rightB s) = true → Yields0 Tryz.prog w k6 (Instr.indexAt 25 (.slice v.A s.files.length v.c) (.int .i64 (y1.1 : Int))) (.pointer (some ⟨blkA v.A, offA v.A + y1.1 * 3, none⟩)) ∧ Reads0 w [] (blkA v.A) (offA v.A + y1.1 * 3) (rfc k14) ∧ Gives Tryz.prog w k6 47 #[.string (k14.f.name)] (.int .i64 k7) ∧ ((decide (k7 > 0)) = true → StepM Tryz.prog w k6 (Instr.buildSlice 47 1 #[(0, .int .i64 k7)]) (fun _ => False) (Nat) (fun x => .slice (some ⟨x, 0, none⟩) 1 1) (fun x => [cellsF x #[.int .i64 k7] 2]) ∧ ∀ x7 : Nat, StepM Tryz.prog w [cellsF x7 #[.int .i64 k7] 2, ownF (rdInt .i64) 1 2 y1.2.1 (k8.length) y1.2.2 k8] (Builtin.append_ #[47, 47] 47 #[.slice y1.2.1 (k8.length) y1.2.2, .slice (some ⟨x7, 0, none⟩) 1 1]) ((ownF (rdInt .i64) 1 2 y1.2.1 (k8.length) y1.2.2 k8).S) k1 (fun x => .slice x.1 (k9.length) x.2) (fun x => [ownF (rdInt .i64) 1 2 x.1 (k9.length) x.2 k9]) ∧ ∀ x8 : Option Addr × Nat, k11 = .int .i64 k10 ∧ ∃ x' : Nat × k1, (x'.1 ≤ v.rs.length ∧ (x'.1 = 0 ∨ rightB s = true)) ∧ (v.rs.length - x'.1 < v.rs.length - y1.1) ∧ (([.pointer k5, .slice x8.1 (k9.length) x8.2, .int .i64 k10] : List Value) = [.pointer k5, .slice x'.2.1 ((segL (v.rs.take x'.1)).length) x'.2.2, .int .i64 (x'.1 : Int)] ∧ k4 = [some ⟨g0, 0, (dc v s), .own 27⟩] ∧ Turns w [ownF (rdInt .i64) 1 2 x8.1 (k9.length) x8.2 k9, cellsF x7 #[.int .i64 k7] 2] [ownF (rdInt .i64) 1 2 x'.2.1 ((segL (v.rs.take x'.1)).length) x'.2.2 (segL (v.rs.take x'.1))]) ∧ true = true) ∧ ((decide (k7 > 0)) = false → k11 = .int .i64 k10 ∧ ∃ x' : Nat × k1, (x'.1 ≤ v.rs.length ∧ (x'.1 = 0 ∨ rightB s = true)) ∧ (v.rs.length - x'.1 < v.rs.length - y1.1) ∧ (([.pointer k5, .slice y1.2.1 (k8.length) y1.2.2, .int .i64 k10] : List Value) = [.pointer k5, .slice x'.2.1 ((segL (v.rs.take x'.1)).length) x'.2.2, .int .i64 (x'.1 : Int)] ∧ k4 = [some ⟨g0, 0, (dc v s), .own 27⟩] ∧ Turns w k6 [ownF (rdInt .i64) 1 2 x'.2.1 ((segL (v.rs.take x'.1)).length) x'.2.2 (segL (v.rs.take x'.1))]) ∧ true = true)) ∧ ((rightB s) = false → ∃ x : Option Addr × Nat, k13 = .slice x.1 (segs s).length x.2 ∧ Turns w k6 ([ownF (rdInt .i64) 1 2 x.1 (segs s).length x.2 (segs s)]))) ∧ (k12 = false → ∃ x : Option Addr × Nat, k13 = .slice x.1 (segs s).length x.2 ∧ Turns w k6 ([ownF (rdInt .i64) 1 2 x.1 (segs s).length x.2 (segs s)]))) Tryz.func22 (by kernel_rfl)
 (fun g0 => ⟨(own_nil (keeps_int _) 1 _), ⟨Nat.zero_le _, .inl rfl⟩, ⟨rfl, rfl, (turns_sub (sub_one rfl))⟩, rfl, fun y1 I2 τ3 => ⟨fun h4 => have h4 : (y1.1 : Int) < (s.files.length : Int) := (by simpa using h4)
⟨(g_rright h hs), fun h5 => ⟨(low_index Tryz.underlying25 info_file raw_cells (Nat.le_refl _) h.f h.len (by omega)), (low_reads raw_cells (Nat.le_refl _) h.f (at_getD (by rw [h.len]; exact (by omega)))), ⟨(fun w1 _ _ => v_rnumber _ w1), ⟨fun h6 => have h6 : 0 < (numOf (v.rs.getD y1.1 rz).f.name) := (by simpa using h6)
⟨(build_step2 (by kernel_rfl) (fun g => by kernel_rfl)), fun x7 => ⟨(step_to2 (by rw [← (segL_yes (by omega) (by have := numOf_nonneg (v.rs.getD y1.1 rz).f.name; omega))]; first | done | simp) (segL_yes (by omega) (by have := numOf_nonneg (v.rs.getD y1.1 rz).f.name; omega)) (append_core (keeps_int _) (leaf_int _) (by decide) Tryz.underlying47 info_i64 rfl (fun _ h => h) (row_at (j := 1) rfl) (fun w _ ha => one_elem (block_at (j := 0) rfl w ha) rfl ⟨rfl, numOf_wf _⟩) rfl (by have := segL_len (v.rs.take y1.1); have := List.length_take_le y1.1 v.rs; unfold maxLen; omega) (by have := segL_len (v.rs.take y1.1); have := List.length_take_le y1.1 v.rs; omega) (fun h => h))), fun x8 => ⟨wrap_is (by omega) (by omega) (by omega), ⟨((y1.1 + 1, x8) : Nat × (Option Addr × Nat)), ⟨(by dsimp only; omega), .inr h5⟩, (by dsimp only; omega), ⟨rfl, rfl, (turns_sub (.cons_cons _ (List.nil_sublist _)))⟩, rfl⟩⟩⟩⟩,
 fun h6 => have h6 : ¬ 0 < (numOf (v.rs.getD y1.1 rz).f.name) := (by simpa using h6)
⟨wrap_is (by omega) (by omega) (by omega), ⟨((y1.1 + 1, y1.2) : Nat × (Option Addr × Nat)), ⟨(by dsimp only; omega), .inr h5⟩, (by dsimp only; omega), ⟨(by dsimp only; rw [(segL_no (by omega) (by have := numOf_nonneg (v.rs.getD y1.1 rz).f.name; omega))]), rfl, (turns_sub (by dsimp only; rw [(segL_no (by omega) (by have := numOf_nonneg (v.rs.getD y1.1 rz).f.name; omega))]; exact .cons_cons _ (List.nil_sublist _)))⟩, rfl⟩⟩⟩⟩⟩,
 fun h5 => (seg_ref h I2.2 (.inr h5))⟩,
 fun h4 => have h4 : ¬ (y1.1 : Int) < (s.files.length : Int) := (by simpa using h4)
(seg_ref h I2.2 (.inl (by omega)))⟩⟩)
end Go.Proofs.YtepfmpmphcndjaaGreatDoor.wal
end
section
namespace Go.Proofs.YtepfmpmphcndjaaGreatDoor.wal
open Go.RowKit Go.Proofs.YtepfmpmphcndjaaGreatDoor Go.Proofs.YtepfmpmphcndjaaGreatDoor.frame Go.Proofs.YtepfmpmphcndjaaGreatDoor.disk
set_option maxRecDepth 20000
section
variable {w0 w1 : World} {D : List Fact} {S : Nat → Prop} {u : Dv} {t : DiskD} {s : Wl}
theorem g_rfind {nm : ByteArray} (h : InD w0 (Lt w0.heap.size) u t) : Gives Tryz.prog w0 D 70 #[.agg (dc u t), .string nm] (.int .i64 (findI t.files nm)) := fun w hw _ =>
 have h1 := h.later hw
 disk.rfind u.A t.files.length u.c t.room t.fuse t.down nm t.files w h1.files rfl (Nat.le_trans h1.l h1.c)
theorem le_step {p : Nat → Int} {k : Nat} {b : Int} (h : ∀ j, j < k → ¬ b < p j) (h2 : ¬ b < p k) : ∀ j, j < k + 1 → ¬ b < p j := fun j hj => by
 rcases Nat.lt_or_ge j k with h3 | h3
 ·exact h j h3
 ·rw [show j = k by omega]; exact h2
theorem find_at {nm : ByteArray} {fs : List FileD} (h : ¬ findI fs nm < 0) : (findI fs nm).toNat < fs.length ∧ disk.look nm fs = some (fs.getD (findI fs nm).toNat fz) := by
 rcases findI_look nm fs with ⟨g1, g2⟩ | ⟨k, f, g1, g2, g3⟩
 ·omega
 ·have e : (findI fs nm).toNat = k := by omega
  have hk := (List.getElem?_eq_some_iff.1 g2).1
  rw [e]
  exact ⟨hk, by rw [g3, List.getD_eq_getElem?_getD, g2]; rfl⟩
theorem find_lt {nm : ByteArray} {fs : List FileD} (h : ¬ findI fs nm < 0) : (findI fs nm).toNat < fs.length := (find_at h).1
theorem find_no {nm : ByteArray} {fs : List FileD} (h : findI fs nm < 0) : disk.look nm fs = none := by
 rcases findI_look nm fs with ⟨g1, g2⟩ | ⟨k, f, g1, g2, g3⟩
 ·exact g2
 ·omega
theorem rf_no (h : right s = false ∨ rightB t = false ∨ ∃ j, j < (segs t).length ∧ s.u < (segs t).getD j 0) : fitsL s t = false := by
 unfold fitsL
 rcases h with h | h | ⟨j, hj, h⟩
 ·rw [h]; rfl
 ·rw [h]; simp
 ·have : (segs t).any (fun x : Int => decide (s.u < x)) = true := by
   rw [List.any_eq_true]
   refine ⟨(segs t)[j], List.getElem_mem hj, ?_⟩
   rw [List.getD_eq_getElem?_getD, List.getElem?_eq_getElem hj] at h
   exact decide_eq_true h
  rw [this]; simp
theorem rf_any (h : ∀ j, j < (segs t).length → ¬ s.u < (segs t).getD j 0) : (segs t).any (fun x : Int => decide (s.u < x)) = false := by
 rw [List.any_eq_false]
 intro x hx
 obtain ⟨j, hj, rfl⟩ := List.getElem_of_mem hx
 have := h j hj
 rw [List.getD_eq_getElem?_getD, List.getElem?_eq_getElem hj] at this
 simpa using this
theorem rf_g0 (h1 : right s = true) (h2 : rightB t = true) (h : ∀ j, j < (segs t).length → ¬ s.u < (segs t).getD j 0) (hg : s.g = 0) : fitsL s t = true := by
 unfold fitsL; rw [h1, h2, rf_any h, decide_eq_true hg]; rfl
theorem rf_rest (h1 : right s = true) (h2 : rightB t = true) (h : ∀ j, j < (segs t).length → ¬ s.u < (segs t).getD j 0) (hg : ¬ s.g = 0) : fitsL s t = decide (((heldV t s.g).length : Int) = s.c * 72) := by
 unfold fitsL; rw [h1, h2, rf_any h, decide_eq_false hg]; simp
theorem held_of (h1 : right s = true) (hg : ¬ s.g = 0) : nameV s.g = nameOf s.g := by
 have := right_facts h1
 unfold nameV
 rw [if_pos (by omega)]
theorem rf_none (h1 : right s = true) (h2 : rightB t = true) (h : ∀ j, j < (segs t).length → ¬ s.u < (segs t).getD j 0) (hg : ¬ s.g = 0) (hf : findI t.files (nameOf s.g) < 0) : fitsL s t = false := by
 have e : heldV t s.g = [] := by unfold heldV; rw [held_of h1 hg, find_no hf]
 have := right_facts h1
 rw [rf_rest h1 h2 h hg, e, decide_eq_false (by simp; omega)]
theorem held_at (hd : InD w1 S u t) (h1 : right s = true) (hg : ¬ s.g = 0) (hf : ¬ findI t.files (nameOf s.g) < 0) : heldV t s.g = (u.rs.getD (findI t.files (nameOf s.g)).toNat rz).f.data := by
 unfold heldV
 rw [held_of h1 hg, (find_at hf).2, hd.at_]
theorem rf_eq (hd : InD w1 S u t) (h1 : right s = true) (h2 : rightB t = true) (h : ∀ j, j < (segs t).length → ¬ s.u < (segs t).getD j 0) (hg : ¬ s.g = 0) (hf : ¬ findI t.files (nameOf s.g) < 0) (he : ((u.rs.getD (findI t.files (nameOf s.g)).toNat rz).f.data.length : Int) = s.c * 72) : fitsL s t = true := by
 rw [rf_rest h1 h2 h hg, held_at hd h1 hg hf]; exact decide_eq_true he
theorem rf_ne (hd : InD w1 S u t) (h1 : right s = true) (h2 : rightB t = true) (h : ∀ j, j < (segs t).length → ¬ s.u < (segs t).getD j 0) (hg : ¬ s.g = 0) (hf : ¬ findI t.files (nameOf s.g) < 0) (he : ¬ ((u.rs.getD (findI t.files (nameOf s.g)).toNat rz).f.data.length : Int) = s.c * 72) : fitsL s t = false := by
 rw [rf_rest h1 h2 h hg, held_at hd h1 hg hf]; exact decide_eq_false he
end
theorem v_rfits (v : Jv) (s : Wl) (u : Dv) (t : DiskD)  (w : World) (h : InJ w (Lt w.heap.size) v s) (hd : InD w (Lt w.heap.size) u t) (hs : shortB t.files = true) : Calls Tryz.prog 38 #[.agg (jc v s), .agg (dc u t)] w fun e w' => e = .returned (.bool (fitsL s t)) ∧ Below w.heap.size w w' :=
 have hsl := segs_len hs
 have h70 := (short_iff.1 hs).1
 calls_by (fn := Tryz.f38) (r := .bool (fitsL s t)) (t := let k0 := findI t.files (nameOf s.g); let k1 := (segs t).length; .cs (right s) (.k (.cs (rightB t) (.cm (Option Addr × Nat) (fun x => .slice x.1 k1 x.2) (fun x => [ownF (rdInt .i64) 1 2 x.1 k1 x.2 (segs t)]) (fun x3 => .l (Nat) (fun x => [(2, undef, some (0, 0)), (3, undef, some (1, 0)), (5, .slice x3.1 k1 x3.2, none), (6, .int .i64 (x : Int), none)]) (fun x => []) [0, 1] [] (fun x => [ownF (rdInt .i64) 1 2 x3.1 k1 x3.2 (segs t)]) (fun x => x ≤ (segs t).length ∧ ∀ j, j < x → ¬ s.u < (segs t).getD j 0) (fun x => (segs t).length - x) (0 : Nat) (fun y4 => .s (.o [] (.q (blkA x3.1) (offA x3.1 + y4 * 1) #[.int .i64 ((segs t).getD y4 0)] (.s .z (.e (.int .i64 ((y4 + 1 : Nat) : Int)) .z)))) (.s .z (.o [] (.c (.string (nameOf s.g)) (.c (.int .i64 k0) (.o [] (.s (.k (.p (blkA u.A) (offA u.A + (k0.toNat) * 3) (rfc (u.rs.getD (k0.toNat) rz)) (.e (.int .i64 (s.c * 72)) (.s .z .z)))) (.k .z)))))))))) .z)) (.k .z)) (X :=
 let k0 := (segs t).length; let k1 := findI t.files (nameOf s.g); let k2 := (.bool false : Value) = .bool (fitsL s t); let k5 := u.rs.getD (k1.toNat) rz; let k3 := decide ((k5.f.data.length : Int) = (s.c * 72)); let k4 := (.bool true : Value) = .bool (fitsL s t); let k6 := ((segs t).length : Int); ∀ g0 : Nat,let k7 : Option Addr := some ⟨g0, 0, none⟩;  ∀ g1 : Nat, let k8 := ([some ⟨g1, 0, (dc u t), .own 27⟩, some ⟨g0, 0, (jc v s), .own 24⟩] : List (Option Blk)); let k9 : Option Addr := some ⟨g1, 0, none⟩; Gives Tryz.prog w [] 14 #[.agg (jc v s)] (.bool (right s)) ∧ ((right s) = true → Gives Tryz.prog w [] 46 #[.agg (dc u t)] (.bool (rightB t)) ∧ ((rightB t) = true → GivesM Tryz.prog w [] 22 #[.agg (dc u t)] (Option Addr × Nat) (fun x => .slice x.1 k0 x.2) (fun x => [ownF (rdInt .i64) 1 2 x.1 k0 x.2 (segs t)]) ∧ ∀ x3 : Option Addr × Nat, let k10 : List Fact := [ownF (rdInt .i64) 1 2 x3.1 k0 x3.2 (segs t)]; Brings w k10 [] ∧ ((0 : Nat) ≤ (segs t).length ∧ ∀ j, j < (0 : Nat) → ¬ s.u < (segs t).getD j 0) ∧ (([.pointer k7, .pointer k9, .slice x3.1 k0 x3.2, .int .i64 0] : List Value) = [.pointer k7, .pointer k9, .slice x3.1 k0 x3.2, .int .i64 ((0 : Nat) : Int)] ∧ k8 = [some ⟨g1, 0, (dc u t), .own 27⟩, some ⟨g0, 0, (jc v s), .own 24⟩] ∧ Turns w k10 k10) ∧ true = true ∧ ∀ (y4 : Nat), let k11 := (segs t).getD y4 0; let k12 := decide ((y4 : Int) < k6); (y4 ≤ (segs t).length ∧ ∀ j, j < y4 → ¬ s.u < (segs t).getD j 0) → ∀ τ6 : Nat → Value, (k12 = true → Yields0 Tryz.prog w k10 (Instr.indexAt 47 (.slice x3.1 k0 x3.2) (.int .i64 (y4 : Int))) (.pointer (some ⟨blkA x3.1, offA x3.1 + y4 * 1, none⟩)) ∧ Reads0 w k10 (blkA x3.1) (offA x3.1 + y4 * 1) #[.int .i64 k11] ∧ ((decide (k11 > s.u)) = true → k2) ∧ ((decide (k11 > s.u)) = false → (.int .i64 (IntKind.i64.wrap ((y4 : Int) + 1)) : Value) = .int .i64 ((y4 + 1 : Nat) : Int) ∧ ∃ x' : Nat, (x' ≤ (segs t).length ∧ ∀ j, j < x' → ¬ s.u < (segs t).getD j 0) ∧ ((segs t).length - x' < (segs t).length - y4) ∧ (([.pointer k7, .pointer k9, .slice x3.1 k0 x3.2, .int .i64 ((y4 + 1 : Nat) : Int)] : List Value) = [.pointer k7, .pointer k9, .slice x3.1 k0 x3.2, .int .i64 (x' : Int)] ∧ k8 = [some ⟨g1, 0, (dc u t), .own 27⟩, some ⟨g0, 0, (jc v s), .own 24⟩] ∧ Turns w k10 k10) ∧ true = true)) ∧ (k12 = false → ((decide (s.g = 0)) = true → k4) ∧ ((decide (s.g = 0)) = false → Gives Tryz.prog w k10 23 #[.int .i64 s.g] (.string (nameOf s.g)) ∧ Gives Tryz.prog w k10 70 #[.agg (dc u t), .string (nameOf s.g)] (.int .i64 k1) ∧ ((decide (k1 ≥ 0)) = true → Yields0 Tryz.prog w k10 (Instr.indexAt 25 (.slice u.A t.files.length u.c) (.int .i64 k1)) (.pointer (some ⟨blkA u.A, offA u.A + (k1.toNat) * 3, none⟩)) ∧ Reads0 w [] (blkA u.A) (offA u.A + (k1.toNat) * 3) (rfc k5) ∧ (.int .i64 (IntKind.i64.wrap (s.c * 72)) : Value) = .int .i64 (s.c * 72) ∧ (k3 = true → k4) ∧ (k3 = false → k2)) ∧ ((decide (k1 ≥ 0)) = false → k2)))) ∧ ((rightB t) = false → k2)) ∧ ((right s) = false → k2)) Tryz.func38 (by kernel_rfl)
 (fun g0 => fun g1 => ⟨(fun w1 hw _ => v_rright v s w1 (h.later hw)), fun h1 => ⟨(g_rright hd hs), fun h2 => ⟨(fun w1 hw _ => v_rsegments u t w1 (hd.later hw) hs), fun x3 => ⟨(fun w _ _ => news_nil), ⟨Nat.zero_le _, fun j hj => absurd hj (Nat.not_lt_zero j)⟩, ⟨rfl, rfl, (turns_sub (.cons_cons _ (List.nil_sublist _)))⟩, rfl, fun y4 I5 τ6 => ⟨fun h7 => have h7 : (y4 : Int) < ((segs t).length : Int) := (by simpa using h7)
⟨(own_index Tryz.underlying47 info_i64 (row_at (j := 0) rfl) (by omega)), (own_reads (keeps_int _) (by decide) int_cells (row_at (j := 0) rfl) (at_getD (by omega))), ⟨fun h8 => have h8 : s.u < ((segs t).getD y4 0) := (by simpa using h8)
(by rw [rf_no (.inr (.inr ⟨y4, by omega, by omega⟩))]),
 fun h8 => have h8 : ¬ s.u < ((segs t).getD y4 0) := (by simpa using h8)
⟨wrap_is rfl (by omega) (by omega), ⟨((y4 + 1) : Nat), ⟨by omega, le_step I5.2 (by omega)⟩, (by omega), ⟨rfl, rfl, (turns_sub (.cons_cons _ (List.nil_sublist _)))⟩, rfl⟩⟩⟩⟩,
 fun h7 => have h7 : ¬ (y4 : Int) < ((segs t).length : Int) := (by simpa using h7)
⟨fun h9 => have h9 : s.g = 0 := (by simpa using h9)
(by rw [rf_g0 h1 h2 (fun j hj => I5.2 j (by omega)) h9]),
 fun h9 => have h9 : ¬ s.g = 0 := (by simpa using h9)
⟨(fun w1 hw _ => v_rname s.g (by have := right_facts h1; omega) h.g w1), ⟨(g_rfind hd), ⟨fun h10 => have h10 : ¬ (findI t.files (nameOf s.g)) < 0 := (by simpa using h10)
⟨(index_at (Int.toNat_of_nonneg (by omega)).symm (low_index Tryz.underlying25 info_file raw_cells (Nat.le_refl _) hd.f hd.len (find_lt (by omega)))), (low_reads raw_cells (Nat.le_refl _) hd.f (at_getD (by rw [hd.len]; exact (find_lt (by omega))))), ⟨wrap_is rfl (by have := right_facts h1; omega) (by have := right_facts h1; omega), ⟨fun h11 => have h11 : ((u.rs.getD ((findI t.files (nameOf s.g)).toNat) rz).f.data.length : Int) = (s.c * 72) := (by simpa using h11)
(by rw [rf_eq hd h1 h2 (fun j hj => I5.2 j (by omega)) h9 (by omega) (by omega)]),
 fun h11 => have h11 : ¬ ((u.rs.getD ((findI t.files (nameOf s.g)).toNat) rz).f.data.length : Int) = (s.c * 72) := (by simpa using h11)
(by rw [rf_ne hd h1 h2 (fun j hj => I5.2 j (by omega)) h9 (by omega) (by omega)])⟩⟩⟩,
 fun h10 => have h10 : (findI t.files (nameOf s.g)) < 0 := (by simpa using h10)
(by rw [rf_none h1 h2 (fun j hj => I5.2 j (by omega)) h9 (by omega)])⟩⟩⟩⟩⟩⟩⟩,
 fun h2 => (by rw [rf_no (.inr (.inl h2))])⟩,
 fun h1 => (by rw [rf_no (.inl h1)])⟩)
end Go.Proofs.YtepfmpmphcndjaaGreatDoor.wal
end
section
namespace Go.Proofs.YtepfmpmphcndjaaGreatDoor.wal
open Go.RowKit Go.Proofs.YtepfmpmphcndjaaGreatDoor Go.Proofs.YtepfmpmphcndjaaGreatDoor.frame Go.Proofs.YtepfmpmphcndjaaGreatDoor.disk
set_option maxRecDepth 20000
def dropB (g u lsn : Int) : List Int → DiskD → DiskD × Int
 | [], d => (d, 0)
 |a :: r, d =>
  if a = g then dropB g u lsn r d
  else if lsn < (match r with | b :: _ => b - 1 | [] => u) then (d, 0)
  else if (removeD d (nameV a)).2 = 0 then dropB g u lsn r (removeD d (nameV a)).1 else removeD d (nameV a)
def dropR (s : Wl) (t : DiskD) (lsn : Int) : DiskD × Int := if fitsL s t = true then dropB s.g s.u lsn (segs t) t else (t, 1)
section
variable {d : DiskD} {lsn L : Int} {i : Nat} {s : Wl} {t : DiskD}
theorem dropB_cons {g u a : Int} {r : List Int} : dropB g u lsn (a :: r) d = if a = g then dropB g u lsn r d else if lsn < (match r with | b :: _ => b - 1 | [] => u) then (d, 0) else if (removeD d (nameV a)).2 = 0 then dropB g u lsn r (removeD d (nameV a)).1 else removeD d (nameV a) := by
 cases r <;> rfl
theorem dropB_unfold {g u : Int} {l : List Int} (hi : i < l.length) : dropB g u lsn (l.drop i) d = if l.getD i 0 = g then dropB g u lsn (l.drop (i + 1)) d else if lsn < lastOf u l i then (d, 0) else if (removeD d (nameV (l.getD i 0))).2 = 0 then dropB g u lsn (l.drop (i + 1)) (removeD d (nameV (l.getD i 0))).1 else removeD d (nameV (l.getD i 0)) := by
 rw [List.drop_eq_getElem_cons hi, dropB_cons]
 have e1 : l.getD i 0 = l[i] := by rw [List.getD_eq_getElem?_getD, List.getElem?_eq_getElem hi]; rfl
 have e2 : (match l.drop (i + 1) with | b :: _ => b - 1 | [] => u) = lastOf u l i := by
  unfold lastOf
  split
  ·rename_i b r hb
   have hlt : i + 1 < l.length := by
    rcases Nat.lt_or_ge (i + 1) l.length with h | h
    ·exact h
    ·rw [List.drop_of_length_le h] at hb; cases hb
   rw [if_pos hlt]
   rw [List.drop_eq_getElem_cons hlt] at hb
   injection hb with hb
   rw [List.getD_eq_getElem?_getD, List.getElem?_eq_getElem hlt, ← hb]; rfl
  ·rename_i hb
   rw [if_neg]
   intro hlt
   rw [List.drop_eq_getElem_cons hlt] at hb; cases hb
 rw [e1, e2]
abbrev DropB (s : Wl) (t : DiskD) (lsn : Int) (i : Nat) (d : DiskD) : Prop := i ≤ (segs t).length ∧ rightB d = true ∧ dropB s.g s.u lsn (segs t) t = dropB s.g s.u lsn ((segs t).drop i) d
theorem dropB_skip (h : DropB s t lsn i d) (hi : i < (segs t).length) (he : (segs t).getD i 0 = s.g) : DropB s t lsn (i + 1) d :=
 ⟨hi, h.2.1, by rw [h.2.2, dropB_unfold hi, if_pos he]⟩
theorem dropB_step (h : DropB s t lsn i d) (hi : i < (segs t).length) (hl : lastOf s.u (segs t) i = L) (hn : ¬ lsn < L) (he : ¬ (segs t).getD i 0 = s.g) (hx : (removeD d (nameV ((segs t).getD i 0))).2 = 0) : DropB s t lsn (i + 1) (removeD d (nameV ((segs t).getD i 0))).1 :=
 ⟨hi, right_remove h.2.1, by rw [h.2.2, dropB_unfold hi, hl, if_neg he, if_neg hn, if_pos hx]⟩
theorem drB_no (h : fitsL s t = false) : dropR s t lsn = (t, 1) := by unfold dropR; rw [if_neg (by rw [h]; simp)]
theorem drB_stop (hf : fitsL s t = true) (h : DropB s t lsn i d) (hi : i < (segs t).length) (hl : lastOf s.u (segs t) i = L) (hn : lsn < L) (he : ¬ (segs t).getD i 0 = s.g) : dropR s t lsn = (d, 0) := by
 unfold dropR; rw [if_pos hf, h.2.2, dropB_unfold hi, hl, if_neg he, if_pos hn]
theorem drB_err (hf : fitsL s t = true) (h : DropB s t lsn i d) (hi : i < (segs t).length) (hl : lastOf s.u (segs t) i = L) (hn : ¬ lsn < L) (he : ¬ (segs t).getD i 0 = s.g) (hx : ¬ (removeD d (nameV ((segs t).getD i 0))).2 = 0) : dropR s t lsn = ((removeD d (nameV ((segs t).getD i 0))).1, (removeD d (nameV ((segs t).getD i 0))).2) := by
 unfold dropR; rw [if_pos hf, h.2.2, dropB_unfold hi, hl, if_neg he, if_neg hn, if_neg hx]
theorem drB_end (hf : fitsL s t = true) (h : DropB s t lsn i d) (hi : (segs t).length ≤ i) : dropR s t lsn = (d, 0) := by
 unfold dropR; rw [if_pos hf, h.2.2, List.drop_of_length_le hi]; rfl
end
section
variable {w0 W : World} {D : List Fact} {S : Nat → Prop} {u : Dv} {t : DiskD}
theorem d_rremove {w : World} {v : Dv} {s : DiskD} (hS : ∀ k, S k → k < w.heap.size) (h : InD w S v s) (hs : shortB s.files = true) {nm : ByteArray} (hn : nm.size ≤ 100) : Calls Tryz.prog 43 #[.agg (dc v s), .string nm] w (RetD S w (removeD s nm)) :=
 (disk.rremove v.A s.files.length v.c s.room s.fuse s.down nm s.files S w hS h.files rfl (by have := (short_iff.1 hs).1; omega) h.l h.c h.r h.u (by unfold maxLen; omega)).mono fun e w' => ret_d (op_in h.r h.u)
theorem g_rremove {nm : ByteArray} (hF : Fixed w0 D S W) (hin : ∀ w, Below w0.heap.size w0 w → All D w → InD w S u t) (hs : shortB t.files = true) (hn : nm.size ≤ 100) :
  GivesM Tryz.prog w0 D 43 #[.agg (dc u t), .string nm] (Dat (fun w S v => InD w S v (removeD t nm).1) S W) (fun x => .tuple #[.agg (dc x.1.2.2 (removeD t nm).1), .int .i64 (removeD t nm).2]) (fun x => [poolF x.1.1 x.1.2.1]) :=
 gives_dat (R := fun w S v => InD w S v (removeD t nm).1) (r := fun b => .tuple #[.agg (dc b (removeD t nm).1), .int .i64 (removeD t nm).2]) hF (fun w hw ha => d_rremove (hF w hw ha).2 (hin w hw ha) hs hn)
theorem n_rname {n : Int} (h : 1 ≤ n ∧ n ≤ 1000000000) : Gives Tryz.prog w0 D 23 #[.int .i64 n] (.string (nameV n)) := fun w _ _ => by
 have e : nameV n = nameOf n := by unfold nameV; rw [if_pos h]
 rw [e]
 exact v_rname n (by omega) (by unfold inI; omega) w
end
theorem v_rdrop (v : Jv) (s : Wl) (u : Dv) (t : DiskD) (lsn : Int) (S : Nat → Prop)  (w : World) (h0 : InJ w S v s) (hd0 : InD w S u t) (hS : ∀ k, S k → k < w.heap.size) (hs : shortB t.files = true) : Calls Tryz.prog 20 #[.agg (jc v s), .agg (dc u t), .int .i64 lsn] w fun e w' => ∃ x : Dv, e = .returned (.tuple #[.agg (dc x (dropR s t lsn).1), .int .i64 (dropR s t lsn).2]) ∧ Below w.heap.size w w' ∧ (fun w' => InD w' (Nw S w w') x (dropR s t lsn).1) w' :=
 have h := h0.all hS
 have hd := hd0.all hS
 have hsl := segs_len hs
 calls_q (fn := Tryz.f20) (r := fun (x : Dv) => .tuple #[.agg (dc x (dropR s t lsn).1), .int .i64 (dropR s t lsn).2]) (Q := fun (x : Dv) => fun w' => InD w' (Nw S w w') x (dropR s t lsn).1) (t := let k0 := (segs t).length; .cs (fitsL s t) (.cm (Option Addr × Nat) (fun x => .slice x.1 k0 x.2) (fun x => [ownF (rdInt .i64) 1 2 x.1 k0 x.2 (segs t)]) (fun x2 => .l (Nat × Dat RD S w) (fun x => [(2, .int .i64 lsn, none), (3, undef, some (0, 0)), (4, undef, some (1, 0)), (6, undef, some (2, 0)), (8, .slice x2.1 k0 x2.2, none), (9, .int .i64 (x.1 : Int), none)]) (fun x => [(1, #[.slice x.2.1.2.2.1.A x.2.1.2.2.2.files.length x.2.1.2.2.1.c, .int .i64 x.2.1.2.2.2.room, .int .i64 x.2.1.2.2.2.fuse, .bool x.2.1.2.2.2.down])]) [0, 1, 2] [poolF w (fun _ => False)] (fun x => [poolF x.2.1.1 x.2.1.2.1, ownF (rdInt .i64) 1 2 x2.1 k0 x2.2 (segs t)]) (fun x => x.1 ≤ (segs t).length ∧ rightB x.2.1.2.2.2 = true ∧ dropB s.g s.u lsn (segs t) t = dropB s.g s.u lsn ((segs t).drop x.1) x.2.1.2.2.2) (fun x => (segs t).length - x.1) ((0, given_ (R := RD) (b := (u, t)) hd0 keeps_dl) : Nat × Dat RD S w) (fun y3 => let k3 := (segs t).getD y3.1 0; let k1 := removeD y3.2.1.2.2.2 (nameV k3); let k4 := (y3.1 + 1 : Nat); let k2 : Value := .int .i64 (k4 : Int); let k5 := Un S y3.2.1.2.1; .s (.o [] (.q (blkA x2.1) (offA x2.1 + y3.1 * 1) #[.int .i64 k3] (.s (.e k2 .z) (.j 10 (Unit) (fun x => [(2, .int .i64 lsn, none), (3, undef, some (0, 0)), (4, undef, some (1, 0)), (6, undef, some (2, 0)), (8, .slice x2.1 k0 x2.2, none), (9, .int .i64 (y3.1 : Int), none)]) (fun x => []) [0, 1, 2] (fun x => [poolF y3.2.1.1 y3.2.1.2.1, ownF (rdInt .i64) 1 2 x2.1 k0 x2.2 (segs t)]) (fun x => ¬ lsn < lastOf s.u (segs t) y3.1) (fun x => []) 4 (.e k2 (.s (.k (.e k2 (.q (blkA x2.1) (offA x2.1 + k4 * 1) #[.int .i64 ((segs t).getD k4 0)] (.e (.int .i64 (((segs t).getD k4 0) - 1)) (.s (.k .z) (.k (.e k2 (.m false (.k .z))))))))) (.k (.k (.e k2 (.s (.k (.s .z .z)) (.k .z))))))) (fun y8 => .o [] (.q (blkA x2.1) (offA x2.1 + y3.1 * 1) #[.int .i64 k3] (.two (.c (.string (nameV k3)) (.two (.cm (Dat (fun w S v => InD w S v (k1.1)) k5 y3.2.1.1) (fun x => .tuple #[.agg (dc x.1.2.2 (k1.1)), .int .i64 (k1.2)]) (fun x => [poolF x.1.1 x.1.2.1]) (fun x15 => .s .z (.e k2 .z))) (.cm (Dat (fun w S v => InD w S v (k1.1)) k5 y3.2.1.1) (fun x => .tuple #[.agg (dc x.1.2.2 (k1.1)), .int .i64 (k1.2)]) (fun x => [poolF x.1.1 x.1.2.1]) (fun x17 => .s .z (.e k2 .z))))) (.c (.string (nameV k3)) (.cm (Dat (fun w S v => InD w S v (k1.1)) k5 y3.2.1.1) (fun x => .tuple #[.agg (dc x.1.2.2 (k1.1)), .int .i64 (k1.2)]) (fun x => [poolF x.1.1 x.1.2.1]) (fun x19 => .s .z (.e k2 .z))))))))))) .z))) .z) (X :=
 let k0 : Array Value := #[.slice none 0 0, .int .i64 0, .int .i64 0, .bool false]; let k1 := (segs t).length; let k2 := dropR s t lsn; let k3 := ((segs t).length : Int); ∀ g0 : Nat,let k4 : Option Addr := some ⟨g0, 0, none⟩;  ∀ g1 : Nat,let k5 : Option Addr := some ⟨g1, 0, none⟩;  ∀ g2 : Nat, let k6 : Option Addr := some ⟨g2, 0, none⟩; Gives Tryz.prog w [] 38 #[.agg (jc v s), .agg (dc u t)] (.bool (fitsL s t)) ∧ ((fitsL s t) = true → GivesM Tryz.prog w [] 22 #[.agg (dc u t)] (Option Addr × Nat) (fun x => .slice x.1 k1 x.2) (fun x => [ownF (rdInt .i64) 1 2 x.1 k1 x.2 (segs t)]) ∧ ∀ x2 : Option Addr × Nat, let k7 : Value := .slice x2.1 k1 x2.2; Brings w [ownF (rdInt .i64) 1 2 x2.1 k1 x2.2 (segs t)] [poolF w (fun _ => False)] ∧ (((0, given_ (R := RD) (b := (u, t)) hd0 keeps_dl) : Nat × Dat RD S w).1 ≤ (segs t).length ∧ rightB ((0, given_ (R := RD) (b := (u, t)) hd0 keeps_dl) : Nat × Dat RD S w).2.1.2.2.2 = true ∧ dropB s.g s.u lsn (segs t) t = dropB s.g s.u lsn ((segs t).drop ((0, given_ (R := RD) (b := (u, t)) hd0 keeps_dl) : Nat × Dat RD S w).1) ((0, given_ (R := RD) (b := (u, t)) hd0 keeps_dl) : Nat × Dat RD S w).2.1.2.2.2) ∧ (([.int .i64 lsn, .pointer k4, .pointer k5, .pointer k6, .slice x2.1 k1 x2.2, .int .i64 0] : List Value) = [.int .i64 lsn, .pointer k4, .pointer k5, .pointer k6, .slice x2.1 k1 x2.2, .int .i64 (((0, given_ (R := RD) (b := (u, t)) hd0 keeps_dl) : Nat × Dat RD S w).1 : Int)] ∧ ([some ⟨g2, 0, k0, .own 27⟩, some ⟨g1, 0, (dc u t), .own 27⟩, some ⟨g0, 0, (jc v s), .own 24⟩] : List (Option Blk)) = [some ⟨g2, 0, k0, .own 27⟩, some ⟨g1, 0, #[.slice (((0, given_ (R := RD) (b := (u, t)) hd0 keeps_dl) : Nat × Dat RD S w).2.1.2.2.1.A) (((0, given_ (R := RD) (b := (u, t)) hd0 keeps_dl) : Nat × Dat RD S w).2.1.2.2.2.files.length) (((0, given_ (R := RD) (b := (u, t)) hd0 keeps_dl) : Nat × Dat RD S w).2.1.2.2.1.c), .int .i64 (((0, given_ (R := RD) (b := (u, t)) hd0 keeps_dl) : Nat × Dat RD S w).2.1.2.2.2.room), .int .i64 (((0, given_ (R := RD) (b := (u, t)) hd0 keeps_dl) : Nat × Dat RD S w).2.1.2.2.2.fuse), .bool (((0, given_ (R := RD) (b := (u, t)) hd0 keeps_dl) : Nat × Dat RD S w).2.1.2.2.2.down)], .own 27⟩, some ⟨g0, 0, (jc v s), .own 24⟩] ∧ Turns w [poolF w (fun _ => False), ownF (rdInt .i64) 1 2 x2.1 k1 x2.2 (segs t)] [poolF ((0, given_ (R := RD) (b := (u, t)) hd0 keeps_dl) : Nat × Dat RD S w).2.1.1 ((0, given_ (R := RD) (b := (u, t)) hd0 keeps_dl) : Nat × Dat RD S w).2.1.2.1, ownF (rdInt .i64) 1 2 x2.1 k1 x2.2 (segs t)]) ∧ true = true ∧ ∀ (y3 : Nat × Dat RD S w), let k8 : List Fact := [poolF y3.2.1.1 y3.2.1.2.1, ownF (rdInt .i64) 1 2 x2.1 k1 x2.2 (segs t)]; let k16 := (segs t).getD y3.1 0; let k9 := removeD y3.2.1.2.2.2 (nameV k16); let k14 := dc y3.2.1.2.2.1 y3.2.1.2.2.2; let k10 := ([some ⟨g2, 0, k0, .own 27⟩, some ⟨g1, 0, k14, .own 27⟩, some ⟨g0, 0, (jc v s), .own 24⟩] : List (Option Blk)); let k11 := (.int .i64 (IntKind.i64.wrap ((y3.1 : Int) + 1)) : Value); let k25 := (y3.1 + 1 : Nat); let k13 := (k25 : Int); let k12 := ([.int .i64 lsn, .pointer k4, .pointer k5, .pointer k6, .slice x2.1 k1 x2.2, .int .i64 k13] : List Value); let k15 := ([.int .i64 lsn, .pointer k4, .pointer k5, .pointer k6, .slice x2.1 k1 x2.2, .int .i64 (y3.1 : Int)] : List Value); let k17 := (segs t).getD k25 0; let k18 := ¬ lsn < lastOf s.u (segs t) y3.1; let k19 := !decide ((k9.2) = 0); let k20 := (.tuple #[.agg k14, .int .i64 0] : Value); let k21 := Un S y3.2.1.2.1; let k22 : Value := .pointer (some ⟨blkA x2.1, offA x2.1 + y3.1 * 1, none⟩); let k23 : Array Value := #[.agg k14, .string (nameV k16)]; let k24 := Instr.indexAt 47 k7 (.int .i64 (y3.1 : Int)); let k26 := decide (k13 = k3); let k27 := decide ((y3.1 : Int) < k3); let k28 : Array Value := #[.int .i64 k16]; let k29 := decide ((k17 - 1) > lsn); (y3.1 ≤ (segs t).length ∧ rightB y3.2.1.2.2.2 = true ∧ dropB s.g s.u lsn (segs t) t = dropB s.g s.u lsn ((segs t).drop y3.1) y3.2.1.2.2.2) → ∀ τ5 : Nat → Value, (k27 = true → Yields0 Tryz.prog w k8 k24 k22 ∧ Reads0 w k8 (blkA x2.1) (offA x2.1 + y3.1 * 1) k28 ∧ ((decide (k16 = s.g)) = true → k11 = .int .i64 k13 ∧ ∃ x' : Nat × Dat RD S w, (x'.1 ≤ (segs t).length ∧ rightB x'.2.1.2.2.2 = true ∧ dropB s.g s.u lsn (segs t) t = dropB s.g s.u lsn ((segs t).drop x'.1) x'.2.1.2.2.2) ∧ ((segs t).length - x'.1 < (segs t).length - y3.1) ∧ (k12 = [.int .i64 lsn, .pointer k4, .pointer k5, .pointer k6, .slice x2.1 k1 x2.2, .int .i64 (x'.1 : Int)] ∧ k10 = [some ⟨g2, 0, k0, .own 27⟩, some ⟨g1, 0, #[.slice x'.2.1.2.2.1.A x'.2.1.2.2.2.files.length x'.2.1.2.2.1.c, .int .i64 x'.2.1.2.2.2.room, .int .i64 x'.2.1.2.2.2.fuse, .bool x'.2.1.2.2.2.down], .own 27⟩, some ⟨g0, 0, (jc v s), .own 24⟩] ∧ Turns w k8 [poolF x'.2.1.1 x'.2.1.2.1, ownF (rdInt .i64) 1 2 x2.1 k1 x2.2 (segs t)]) ∧ true = true) ∧ ((decide (k16 = s.g)) = false → (k11 = .int .i64 k13 ∧ ((decide (k13 < k3)) = true → k11 = .int .i64 k13 ∧ Yields0 Tryz.prog w k8 (Instr.indexAt 47 k7 (.int .i64 k13)) (.pointer (some ⟨blkA x2.1, offA x2.1 + k25 * 1, none⟩)) ∧ Reads0 w k8 (blkA x2.1) (offA x2.1 + k25 * 1) #[.int .i64 k17] ∧ (.int .i64 (IntKind.i64.wrap (k17 - 1)) : Value) = .int .i64 (k17 - 1) ∧ (k29 = true → ∃ x : Dv, k20 = .tuple #[.agg (dc x k2.1), .int .i64 k2.2] ∧ Concl w k8 (fun w' => InD w' (Nw S w w') x k2.1)) ∧ (k29 = false → k11 = .int .i64 k13 ∧ k26 = false ∧ ∃ x' : Unit, k18 ∧ (k15 = [.int .i64 lsn, .pointer k4, .pointer k5, .pointer k6, .slice x2.1 k1 x2.2, .int .i64 (y3.1 : Int)] ∧ k10 = [some ⟨g2, 0, k0, .own 27⟩, some ⟨g1, 0, k14, .own 27⟩, some ⟨g0, 0, (jc v s), .own 24⟩] ∧ Turns w k8 k8) ∧ true = true)) ∧ ((decide (k13 < k3)) = false → k11 = .int .i64 k13 ∧ (k26 = true → ((decide (s.u > lsn)) = true → ∃ x : Dv, k20 = .tuple #[.agg (dc x k2.1), .int .i64 k2.2] ∧ Concl w k8 (fun w' => InD w' (Nw S w w') x k2.1)) ∧ ((decide (s.u > lsn)) = false → ∃ x' : Unit, k18 ∧ (k15 = [.int .i64 lsn, .pointer k4, .pointer k5, .pointer k6, .slice x2.1 k1 x2.2, .int .i64 (y3.1 : Int)] ∧ k10 = [some ⟨g2, 0, k0, .own 27⟩, some ⟨g1, 0, k14, .own 27⟩, some ⟨g0, 0, (jc v s), .own 24⟩] ∧ Turns w k8 k8) ∧ true = true)) ∧ (k26 = false → ∃ x' : Unit, k18 ∧ (k15 = [.int .i64 lsn, .pointer k4, .pointer k5, .pointer k6, .slice x2.1 k1 x2.2, .int .i64 (y3.1 : Int)] ∧ k10 = [some ⟨g2, 0, k0, .own 27⟩, some ⟨g1, 0, k14, .own 27⟩, some ⟨g0, 0, (jc v s), .own 24⟩] ∧ Turns w k8 k8) ∧ true = true))) ∧ ∀ (y8 : Unit), k18 → ∀ τ14 : Nat → Value, Yields0 Tryz.prog w k8 k24 k22 ∧ Reads0 w k8 (blkA x2.1) (offA x2.1 + y3.1 * 1) k28 ∧ (Gives Tryz.prog w k8 23 k28 (.string (nameV k16)) ∧ (GivesM Tryz.prog w k8 43 k23 (Dat (fun w S v => InD w S v (k9.1)) k21 y3.2.1.1) (fun x => .tuple #[.agg (dc x.1.2.2 (k9.1)), .int .i64 (k9.2)]) (fun x => [poolF x.1.1 x.1.2.1]) ∧ ∀ x15 : Dat (fun w S v => InD w S v (k9.1)) k21 y3.2.1.1,let k30 : List Fact := [poolF x15.1.1 x15.1.2.1, poolF y3.2.1.1 y3.2.1.2.1, ownF (rdInt .i64) 1 2 x2.1 k1 x2.2 (segs t)];  ∀ g5 : Nat, (k19 = true → ∃ x : Dv, (.tuple #[.agg (dc x15.1.2.2 (k9.1)), .int .i64 (k9.2)] : Value) = .tuple #[.agg (dc x k2.1), .int .i64 k2.2] ∧ Concl w k30 (fun w' => InD w' (Nw S w w') x k2.1)) ∧ (k19 = false → k11 = .int .i64 k13 ∧ ∃ x' : Nat × Dat RD S w, (x'.1 ≤ (segs t).length ∧ rightB x'.2.1.2.2.2 = true ∧ dropB s.g s.u lsn (segs t) t = dropB s.g s.u lsn ((segs t).drop x'.1) x'.2.1.2.2.2) ∧ ((segs t).length - x'.1 < (segs t).length - y3.1) ∧ (k12 = [.int .i64 lsn, .pointer k4, .pointer k5, .pointer k6, .slice x2.1 k1 x2.2, .int .i64 (x'.1 : Int)] ∧ ([some ⟨g2, 0, k0, .own 27⟩, some ⟨g1, 0, (dc x15.1.2.2 (k9.1)), .own 27⟩, some ⟨g0, 0, (jc v s), .own 24⟩] : List (Option Blk)) = [some ⟨g2, 0, k0, .own 27⟩, some ⟨g1, 0, #[.slice x'.2.1.2.2.1.A x'.2.1.2.2.2.files.length x'.2.1.2.2.1.c, .int .i64 x'.2.1.2.2.2.room, .int .i64 x'.2.1.2.2.2.fuse, .bool x'.2.1.2.2.2.down], .own 27⟩, some ⟨g0, 0, (jc v s), .own 24⟩] ∧ Turns w k30 [poolF x'.2.1.1 x'.2.1.2.1, ownF (rdInt .i64) 1 2 x2.1 k1 x2.2 (segs t)]) ∧ true = true)) ∧ (∀ g5 : Nat, GivesM Tryz.prog w k8 43 k23 (Dat (fun w S v => InD w S v (k9.1)) k21 y3.2.1.1) (fun x => .tuple #[.agg (dc x.1.2.2 (k9.1)), .int .i64 (k9.2)]) (fun x => [poolF x.1.1 x.1.2.1]) ∧ ∀ x17 : Dat (fun w S v => InD w S v (k9.1)) k21 y3.2.1.1, let k31 : List Fact := [poolF x17.1.1 x17.1.2.1, poolF y3.2.1.1 y3.2.1.2.1, ownF (rdInt .i64) 1 2 x2.1 k1 x2.2 (segs t)]; (k19 = true → ∃ x : Dv, (.tuple #[.agg (dc x17.1.2.2 (k9.1)), .int .i64 (k9.2)] : Value) = .tuple #[.agg (dc x k2.1), .int .i64 k2.2] ∧ Concl w k31 (fun w' => InD w' (Nw S w w') x k2.1)) ∧ (k19 = false → k11 = .int .i64 k13 ∧ ∃ x' : Nat × Dat RD S w, (x'.1 ≤ (segs t).length ∧ rightB x'.2.1.2.2.2 = true ∧ dropB s.g s.u lsn (segs t) t = dropB s.g s.u lsn ((segs t).drop x'.1) x'.2.1.2.2.2) ∧ ((segs t).length - x'.1 < (segs t).length - y3.1) ∧ (k12 = [.int .i64 lsn, .pointer k4, .pointer k5, .pointer k6, .slice x2.1 k1 x2.2, .int .i64 (x'.1 : Int)] ∧ ([some ⟨g2, 0, k0, .own 27⟩, some ⟨g1, 0, (dc x17.1.2.2 (k9.1)), .own 27⟩, some ⟨g0, 0, (jc v s), .own 24⟩] : List (Option Blk)) = [some ⟨g2, 0, k0, .own 27⟩, some ⟨g1, 0, #[.slice x'.2.1.2.2.1.A x'.2.1.2.2.2.files.length x'.2.1.2.2.1.c, .int .i64 x'.2.1.2.2.2.room, .int .i64 x'.2.1.2.2.2.fuse, .bool x'.2.1.2.2.2.down], .own 27⟩, some ⟨g0, 0, (jc v s), .own 24⟩] ∧ Turns w k31 [poolF x'.2.1.1 x'.2.1.2.1, ownF (rdInt .i64) 1 2 x2.1 k1 x2.2 (segs t)]) ∧ true = true))) ∧ (∀ g5 : Nat, Gives Tryz.prog w k8 23 k28 (.string (nameV k16)) ∧ GivesM Tryz.prog w k8 43 k23 (Dat (fun w S v => InD w S v (k9.1)) k21 y3.2.1.1) (fun x => .tuple #[.agg (dc x.1.2.2 (k9.1)), .int .i64 (k9.2)]) (fun x => [poolF x.1.1 x.1.2.1]) ∧ ∀ x19 : Dat (fun w S v => InD w S v (k9.1)) k21 y3.2.1.1, let k32 : List Fact := [poolF x19.1.1 x19.1.2.1, poolF y3.2.1.1 y3.2.1.2.1, ownF (rdInt .i64) 1 2 x2.1 k1 x2.2 (segs t)]; (k19 = true → ∃ x : Dv, (.tuple #[.agg (dc x19.1.2.2 (k9.1)), .int .i64 (k9.2)] : Value) = .tuple #[.agg (dc x k2.1), .int .i64 k2.2] ∧ Concl w k32 (fun w' => InD w' (Nw S w w') x k2.1)) ∧ (k19 = false → k11 = .int .i64 k13 ∧ ∃ x' : Nat × Dat RD S w, (x'.1 ≤ (segs t).length ∧ rightB x'.2.1.2.2.2 = true ∧ dropB s.g s.u lsn (segs t) t = dropB s.g s.u lsn ((segs t).drop x'.1) x'.2.1.2.2.2) ∧ ((segs t).length - x'.1 < (segs t).length - y3.1) ∧ (k12 = [.int .i64 lsn, .pointer k4, .pointer k5, .pointer k6, .slice x2.1 k1 x2.2, .int .i64 (x'.1 : Int)] ∧ ([some ⟨g2, 0, k0, .own 27⟩, some ⟨g1, 0, (dc x19.1.2.2 (k9.1)), .own 27⟩, some ⟨g0, 0, (jc v s), .own 24⟩] : List (Option Blk)) = [some ⟨g2, 0, k0, .own 27⟩, some ⟨g1, 0, #[.slice x'.2.1.2.2.1.A x'.2.1.2.2.2.files.length x'.2.1.2.2.1.c, .int .i64 x'.2.1.2.2.2.room, .int .i64 x'.2.1.2.2.2.fuse, .bool x'.2.1.2.2.2.down], .own 27⟩, some ⟨g0, 0, (jc v s), .own 24⟩] ∧ Turns w k32 [poolF x'.2.1.1 x'.2.1.2.1, ownF (rdInt .i64) 1 2 x2.1 k1 x2.2 (segs t)]) ∧ true = true)))) ∧ (k27 = false → ∃ x : Dv, k20 = .tuple #[.agg (dc x k2.1), .int .i64 k2.2] ∧ Concl w k8 (fun w' => InD w' (Nw S w w') x k2.1))) ∧ ((fitsL s t) = false → ∃ x : Dv, (.tuple #[.agg (dc u t), .int .i64 1] : Value) = .tuple #[.agg (dc x k2.1), .int .i64 k2.2] ∧ Concl w [] (fun w' => InD w' (Nw S w w') x k2.1))) Tryz.func20 (by kernel_rfl)
 (fun g0 => fun g1 => fun g2 => ⟨(fun w1 hw _ => v_rfits v s u t w1 (h.later hw) (hd.later hw) hs), fun h1 => ⟨(fun w1 hw _ => v_rsegments u t w1 (hd.later hw) hs), fun x2 => ⟨(fun _ _ _ => news_pool0), ⟨Nat.zero_le _, rightB_of_fits h1, rfl⟩, ⟨rfl, rfl, (turns_sub (.cons_cons _ (.cons_cons _ (List.nil_sublist _))))⟩, rfl, fun y3 I4 τ5 => ⟨fun h6 => have h6 : (y3.1 : Int) < ((segs t).length : Int) := (by simpa using h6)
⟨(own_index Tryz.underlying47 info_i64 (row_at (j := 1) rfl) (by omega)), (own_reads (keeps_int _) (by decide) int_cells (row_at (j := 1) rfl) (at_getD (by omega))), ⟨fun h7 => have h7 : ((segs t).getD y3.1 0) = s.g := (by simpa using h7)
⟨wrap_is rfl (by omega) (by omega), ⟨((y3.1 + 1, y3.2) : Nat × Dat RD S w), (dropB_skip I4 (by omega) h7), (by dsimp only; omega), ⟨rfl, rfl, (turns_sub (List.Sublist.refl _))⟩, rfl⟩⟩,
 fun h7 => have h7 : ¬ ((segs t).getD y3.1 0) = s.g := (by simpa using h7)
⟨⟨wrap_is rfl (by omega) (by omega), ⟨fun h10 => have h10 : ((y3.1 + 1 : Nat) : Int) < ((segs t).length : Int) := (by simpa using h10)
⟨wrap_is rfl (by omega) (by omega), ⟨(own_index Tryz.underlying47 info_i64 (row_at (j := 1) rfl) (by omega)), (own_reads (keeps_int _) (by decide) int_cells (row_at (j := 1) rfl) (at_getD (by omega))), ⟨wrap_is rfl (by have := seg_rng (segs_rng t) (k := y3.1 + 1) (by omega); omega) (by have := seg_rng (segs_rng t) (k := y3.1 + 1) (by omega); omega), ⟨fun h11 => have h11 : lsn < (((segs t).getD (y3.1 + 1 : Nat) 0) - 1) := (by simpa using h11)
(q_d (drB_stop h1 I4 (by omega) (last_mid (by omega)) (by omega) h7) (fun w1 hb ha hy => (dat_new keeps_dl (fixed_low hS) y3.2 (i := 0) rfl hb ha hy new_base))),
 fun h11 => have h11 : ¬ lsn < (((segs t).getD (y3.1 + 1 : Nat) 0) - 1) := (by simpa using h11)
⟨wrap_is rfl (by omega) (by omega), ⟨by simp only [dq]; omega, ⟨(() : Unit), (by rw [(last_mid (by omega))]; omega), ⟨rfl, rfl, (turns_sub (.cons_cons _ (.cons_cons _ (List.nil_sublist _))))⟩, rfl⟩⟩⟩⟩⟩⟩⟩,
 fun h10 => have h10 : ¬ ((y3.1 + 1 : Nat) : Int) < ((segs t).length : Int) := (by simpa using h10)
⟨wrap_is rfl (by omega) (by omega), ⟨fun h12 => have h12 : ((y3.1 + 1 : Nat) : Int) = ((segs t).length : Int) := (by simpa using h12)
⟨fun h13 => have h13 : lsn < s.u := (by simpa using h13)
(q_d (drB_stop h1 I4 (by omega) (last_end (by omega)) (by omega) h7) (fun w1 hb ha hy => (dat_new keeps_dl (fixed_low hS) y3.2 (i := 0) rfl hb ha hy new_base))),
 fun h13 => have h13 : ¬ lsn < s.u := (by simpa using h13)
⟨(() : Unit), (by rw [(last_end (by omega))]; omega), ⟨rfl, rfl, (turns_sub (.cons_cons _ (.cons_cons _ (List.nil_sublist _))))⟩, rfl⟩⟩,
 fun h12 => have h12 : ¬ ((y3.1 + 1 : Nat) : Int) = ((segs t).length : Int) := (by simpa using h12)
⟨(() : Unit), (by rw [(last_end (by omega))]; omega), ⟨rfl, rfl, (turns_sub (.cons_cons _ (.cons_cons _ (List.nil_sublist _))))⟩, rfl⟩⟩⟩⟩⟩,
 fun y8 I9 τ14 => ⟨(own_index Tryz.underlying47 info_i64 (row_at (j := 1) rfl) (by omega)), (own_reads (keeps_int _) (by decide) int_cells (row_at (j := 1) rfl) (at_getD (by omega))), ⟨⟨(n_rname (seg_rng (segs_rng t) (by omega))), ⟨⟨(g_rremove (fixed_next (fixed_low hS) y3.2 (i := 0) rfl) (fun w1 hw ha => ((dat_in keeps_dl (fixed_low hS) y3.2 (i := 0) rfl w1 hw ha))) (right_short I4.2.1) (nameV_100 _)), fun x15 => fun g5 => ⟨fun h16 => have h16 : ¬ ((removeD y3.2.1.2.2.2 (nameV ((segs t).getD y3.1 0))).2) = 0 := (by simpa using h16)
(q_d (drB_err h1 I4 (by omega) rfl I9 h7 h16) (fun w1 hb ha hy => (dat_new (keeps_d ((removeD y3.2.1.2.2.2 (nameV ((segs t).getD y3.1 0))).1)) (fixed_next (fixed_low hS) y3.2 (i := 1) rfl) x15 (i := 0) rfl hb ha hy (new_un (i := 1) rfl hy new_base)))),
 fun h16 => have h16 : ((removeD y3.2.1.2.2.2 (nameV ((segs t).getD y3.1 0))).2) = 0 := (by simpa using h16)
⟨wrap_is rfl (by omega) (by omega), ⟨((y3.1 + 1, nextD y3.2 x15) : Nat × Dat RD S w), (dropB_step I4 (by omega) rfl I9 h7 h16), (by dsimp only; omega), ⟨rfl, rfl, (turns_glue2 keeps_dl y3.2 (keeps_d _) x15)⟩, rfl⟩⟩⟩⟩,
 fun g5 => ⟨(g_rremove (fixed_next (fixed_low hS) y3.2 (i := 0) rfl) (fun w1 hw ha => ((dat_in keeps_dl (fixed_low hS) y3.2 (i := 0) rfl w1 hw ha))) (right_short I4.2.1) (nameV_100 _)), fun x17 => ⟨fun h18 => have h18 : ¬ ((removeD y3.2.1.2.2.2 (nameV ((segs t).getD y3.1 0))).2) = 0 := (by simpa using h18)
(q_d (drB_err h1 I4 (by omega) rfl I9 h7 h18) (fun w1 hb ha hy => (dat_new (keeps_d ((removeD y3.2.1.2.2.2 (nameV ((segs t).getD y3.1 0))).1)) (fixed_next (fixed_low hS) y3.2 (i := 1) rfl) x17 (i := 0) rfl hb ha hy (new_un (i := 1) rfl hy new_base)))),
 fun h18 => have h18 : ((removeD y3.2.1.2.2.2 (nameV ((segs t).getD y3.1 0))).2) = 0 := (by simpa using h18)
⟨wrap_is rfl (by omega) (by omega), ⟨((y3.1 + 1, nextD y3.2 x17) : Nat × Dat RD S w), (dropB_step I4 (by omega) rfl I9 h7 h18), (by dsimp only; omega), ⟨rfl, rfl, (turns_glue2 keeps_dl y3.2 (keeps_d _) x17)⟩, rfl⟩⟩⟩⟩⟩⟩,
 fun g5 => ⟨(n_rname (seg_rng (segs_rng t) (by omega))), ⟨(g_rremove (fixed_next (fixed_low hS) y3.2 (i := 0) rfl) (fun w1 hw ha => ((dat_in keeps_dl (fixed_low hS) y3.2 (i := 0) rfl w1 hw ha))) (right_short I4.2.1) (nameV_100 _)), fun x19 => ⟨fun h20 => have h20 : ¬ ((removeD y3.2.1.2.2.2 (nameV ((segs t).getD y3.1 0))).2) = 0 := (by simpa using h20)
(q_d (drB_err h1 I4 (by omega) rfl I9 h7 h20) (fun w1 hb ha hy => (dat_new (keeps_d ((removeD y3.2.1.2.2.2 (nameV ((segs t).getD y3.1 0))).1)) (fixed_next (fixed_low hS) y3.2 (i := 1) rfl) x19 (i := 0) rfl hb ha hy (new_un (i := 1) rfl hy new_base)))),
 fun h20 => have h20 : ((removeD y3.2.1.2.2.2 (nameV ((segs t).getD y3.1 0))).2) = 0 := (by simpa using h20)
⟨wrap_is rfl (by omega) (by omega), ⟨((y3.1 + 1, nextD y3.2 x19) : Nat × Dat RD S w), (dropB_step I4 (by omega) rfl I9 h7 h20), (by dsimp only; omega), ⟨rfl, rfl, (turns_glue2 keeps_dl y3.2 (keeps_d _) x19)⟩, rfl⟩⟩⟩⟩⟩⟩⟩⟩⟩⟩,
 fun h6 => have h6 : ¬ (y3.1 : Int) < ((segs t).length : Int) := (by simpa using h6)
(q_d (drB_end h1 I4 (by omega)) (fun w1 hb ha hy => (dat_new keeps_dl (fixed_low hS) y3.2 (i := 0) rfl hb ha hy new_base)))⟩⟩⟩,
 fun h1 => (q_d (drB_no h1) (fun w1 hb ha hy => (hd0.keep (low_alike hS hb) (fun _ h => .inl h))))⟩)
end Go.Proofs.YtepfmpmphcndjaaGreatDoor.wal
end
