/-
  BookR3, BookR0, BookDm
-/
import Derived.Test.YtbeimapldejgmaaGreatMB15
import Derived.Test.YtbeimapldejgmaaGreatMB41
import Derived.Test.YtbeimapldejgmaaGreatMB18
import Derived.Test.YtbeimapldejgmaaGreatMB40
import Derived.Test.YtbeimapldejgmaaGreatMB42
import Derived.Test.YtbeimapldejgmaaGreatMB19
set_option linter.unusedVariables false
set_option linter.unusedSimpArgs false
section
namespace Go.Proofs.YtbeimapldejgmaaGreat.book
open Go.RowKit Go.Proofs.YtbeimapldejgmaaGreat
open Go.Proofs.YtbeimapldejgmaaGreat.order (Or open_ worth)
open Go.Proofs.YtbeimapldejgmaaGreat.cell (Ce Ex)
open Go.Proofs.YtbeimapldejgmaaGreat.rec (Rc)
set_option maxRecDepth 20000
open Go.Proofs.YtbeimapldejgmaaGreat.order (oz)
theorem rright (v : Sv) (s : St)  (w : World) (h : InS w (Lt w.heap.size) v s) : Calls Tryz.prog 6 #[.agg (stc v s)] w fun e w' => e = .returned (.bool (right s)) ∧ Below w.heap.size w w' :=
 have hlen := h.len
 calls_by (fn := Tryz.f6) (r := .bool (right s)) (t := .s (.k (.k (.k (.k (.k (.k (.k .z))))))) (.k (.s (.k (.k (.k (.k (.k (.k .z)))))) (.k (.s (.k (.k (.k (.k (.k .z))))) (.k (.s (.k (.k (.k (.k .z)))) (.k (.e (.int .i64 (s.a * s.y)) (.s (.k (.k (.k .z))) (.k (.e (.int .i64 (s.a * s.y)) (.s (.k (.k .z)) (.k (.s (.k .z) (.k (.s .z (.s (.k (.k (.k (.k (.k .z))))) (.k (.s (.k (.k (.k (.k .z)))) (.k (.s (.k (.k (.k .z))) (.k (.s (.k (.k .z)) (.k (.s (.k .z) (.k (.s .z (.l (Nat) (fun x => [(1, undef, some (0, 0)), (3, .int .i64 (x : Int), none)]) (fun x => []) [0] [] (fun x => []) (fun x => x ≤ s.os.length ∧ ∀ j, j < x → okO s j) (fun x => s.os.length - x) (0 : Nat) (fun y15 => let k0 := (y15 - 1 : Nat); let k1 : Value := .int .i64 ((y15 + 1 : Nat) : Int); let k2 := s.os.getD y15 order.oz; .s (.p (blkA v.A1) (offA v.A1 + y15 * 12) (order.oc k2) (.o [] (.cs (order.right k2) (.k (.s (.k (.k (.k (.k .z)))) (.k (.s (.k (.k (.k .z))) (.k (.s (.k (.k .z)) (.k (.s (.k .z) (.k (.s (.k (.e (.int .i64 (k0 : Int)) (.p (blkA v.A1) (offA v.A1 + k0 * 12) (order.oc (s.os.getD k0 order.oz)) (.s .z (.e k1 .z))))) (.k (.e k1 .z)))))))))))) (.k (.k (.k (.k (.k .z)))))))) (.l (Nat) (fun x => [(1, undef, some (0, 0)), (5, .int .i64 (x : Int), none)]) (fun x => []) [0] [] (fun x => []) (fun x => x ≤ s.ls.length ∧ ∀ j, j < x → limit.right (s.ls.getD j xz) = true) (fun x => s.ls.length - x) (0 : Nat) (fun y26 => .s (.p (blkA v.A3) (offA v.A3 + y26 * 3) (cell.xc (s.ls.getD y26 xz)) (.cs (limit.right (s.ls.getD y26 xz)) (.e (.int .i64 ((y26 + 1 : Nat) : Int)) .z) .z)) (.l (Nat) (fun x => [(1, undef, some (0, 0)), (6, .int .i64 (x : Int), none)]) (fun x => []) [0] [] (fun x => []) (fun x => x ≤ s.ps.length ∧ ∀ j, j < x → 0 ≤ s.ps.getD j 0) (fun x => s.ps.length - x) (0 : Nat) (fun y31 => .s (.p (blkA v.A4) (offA v.A4 + y31 * 1) #[.int .i64 (s.ps.getD y31 0)] (.s .z (.e (.int .i64 ((y31 + 1 : Nat) : Int)) .z))) (.gs (cellsOk s) (.cm (Option Addr × Nat) (fun x => .tuple #[.slice x.1 s.cs.length x.2, .bool true]) (fun x => [oC x.1 s.cs.length x.2 (CL s)]) (fun x37 => .k (.k (.l (Nat) (fun x => [(1, undef, some (0, 0)), (7, .slice x37.1 s.cs.length x37.2, none), (9, .int .i64 (x : Int), none)]) (fun x => []) [0] [] (fun x => [oC x37.1 s.cs.length x37.2 (CL s)]) (fun x => x ≤ s.cs.length ∧ ∀ j, j < x → (CL s).getD j cz = s.cs.getD j cz) (fun x => s.cs.length - x) (0 : Nat) (fun y38 => .s (.o [] (.q (blkA x37.1) (offA x37.1 + y38 * 4) (cell.cc ((CL s).getD y38 cz)) (.p (blkA v.A2) (offA v.A2 + y38 * 4) (cell.cc (s.cs.getD y38 cz)) (.xs (!decide (((CL s).getD y38 cz) = (s.cs.getD y38 cz))) .z (.e (.int .i64 ((y38 + 1 : Nat) : Int)) .z))))) .z))))) (.c (.tuple #[.slice none 0 0, .bool false]) (.k (.k .z)))))))))))))))))))))))))))))))))))))) (X :=
 let k0 := (.bool false : Value); let k1 := (s.cs.length : Int); let k2 := (s.ls.length : Int); let k3 := (s.ps.length : Int); let k4 := (s.os.length : Int); let k5 := (.int .i64 (IntKind.i64.wrap (s.a * s.y)) : Value); let k6 := ((0 : Nat) : Int); let k7 := decide (s.last > 1000000000000); let k8 := decide (s.seq > 1000000000); let k9 := decide (s.lsn > 1000000000); let k10 := !decide (k1 = (s.a * s.y)); let k11 := !decide (k2 = (s.a * s.y)); ∀ g0 : Nat, let k12 := ([some ⟨g0, 0, (stc v s), .own 27⟩] : List (Option Blk)); let k13 : Option Addr := some ⟨g0, 0, none⟩; let k14 := ([.pointer k13, .int .i64 0] : List Value); ((decide (s.a < 1)) = true → k0 = .bool (right s)) ∧ ((decide (s.a < 1)) = false → ((decide (s.a > 8)) = true → k0 = .bool (right s)) ∧ ((decide (s.a > 8)) = false → ((decide (s.y < 1)) = true → k0 = .bool (right s)) ∧ ((decide (s.y < 1)) = false → ((decide (s.y > 8)) = true → k0 = .bool (right s)) ∧ ((decide (s.y > 8)) = false → k5 = .int .i64 (s.a * s.y) ∧ (k10 = true → k0 = .bool (right s)) ∧ (k10 = false → k5 = .int .i64 (s.a * s.y) ∧ (k11 = true → k0 = .bool (right s)) ∧ (k11 = false → ((!decide (k3 = s.a)) = true → k0 = .bool (right s)) ∧ ((!decide (k3 = s.a)) = false → ((decide (k4 > 64)) = true → k0 = .bool (right s)) ∧ ((decide (k4 > 64)) = false → ((decide (s.last < 0)) = true → k0 = .bool (right s)) ∧ ((decide (s.last < 0)) = false → (k7 = true → k0 = .bool (right s)) ∧ (k7 = false → ((decide (s.seq < 0)) = true → k0 = .bool (right s)) ∧ ((decide (s.seq < 0)) = false → (k8 = true → k0 = .bool (right s)) ∧ (k8 = false → ((decide (s.lsn < 0)) = true → k0 = .bool (right s)) ∧ ((decide (s.lsn < 0)) = false → (k9 = true → k0 = .bool (right s)) ∧ (k9 = false → Brings w [] [] ∧ ((0 : Nat) ≤ s.os.length ∧ ∀ j, j < (0 : Nat) → okO s j) ∧ (k14 = [.pointer k13, .int .i64 k6] ∧ k12 = [some ⟨g0, 0, (stc v s), .own 27⟩] ∧ Turns w [] []) ∧ true = true ∧ ∀ (y15 : Nat), let k15 := s.os.getD y15 order.oz; let k16 := (y15 - 1 : Nat); let k20 := ((y15 + 1 : Nat) : Int); let k17 := ([.pointer k13, .int .i64 k20] : List Value); let k18 := (.int .i64 (IntKind.i64.wrap ((y15 : Int) + 1)) : Value); let k19 := decide (k15.i ≤ (s.os.getD k16 order.oz).i); let k21 := order.right k15; let k22 := decide ((y15 : Int) < k4); let k23 := decide ((y15 : Int) > 0); (y15 ≤ s.os.length ∧ ∀ j, j < y15 → okO s j) → ∀ τ17 : Nat → Value, (k22 = true → Yields0 Tryz.prog w [] (Instr.indexAt 22 (.slice v.A1 s.os.length v.c1) (.int .i64 (y15 : Int))) (.pointer (some ⟨blkA v.A1, offA v.A1 + y15 * 12, none⟩)) ∧ Reads0 w [] (blkA v.A1) (offA v.A1 + y15 * 12) (order.oc k15) ∧ ∀ g2 : Nat, Gives Tryz.prog w [] 21 #[.agg (order.oc k15)] (.bool k21) ∧ (k21 = true → ((decide (k15.h = 3)) = true → k0 = .bool (right s)) ∧ ((decide (k15.h = 3)) = false → ((decide (k15.a ≥ s.a)) = true → k0 = .bool (right s)) ∧ ((decide (k15.a ≥ s.a)) = false → ((decide (k15.y ≥ s.y)) = true → k0 = .bool (right s)) ∧ ((decide (k15.y ≥ s.y)) = false → ((decide (k15.i > s.last)) = true → k0 = .bool (right s)) ∧ ((decide (k15.i > s.last)) = false → (k23 = true → (.int .i64 (IntKind.i64.wrap ((y15 : Int) - 1)) : Value) = .int .i64 (k16 : Int) ∧ Yields0 Tryz.prog w [] (Instr.indexAt 22 (.slice v.A1 s.os.length v.c1) (.int .i64 (k16 : Int))) (.pointer (some ⟨blkA v.A1, offA v.A1 + k16 * 12, none⟩)) ∧ Reads0 w [] (blkA v.A1) (offA v.A1 + k16 * 12) (order.oc (s.os.getD k16 order.oz)) ∧ (k19 = true → k0 = .bool (right s)) ∧ (k19 = false → k18 = .int .i64 k20 ∧ ∃ x' : Nat, (x' ≤ s.os.length ∧ ∀ j, j < x' → okO s j) ∧ (s.os.length - x' < s.os.length - y15) ∧ (k17 = [.pointer k13, .int .i64 (x' : Int)] ∧ k12 = [some ⟨g0, 0, (stc v s), .own 27⟩] ∧ Turns w [] []) ∧ true = true)) ∧ (k23 = false → k18 = .int .i64 k20 ∧ ∃ x' : Nat, (x' ≤ s.os.length ∧ ∀ j, j < x' → okO s j) ∧ (s.os.length - x' < s.os.length - y15) ∧ (k17 = [.pointer k13, .int .i64 (x' : Int)] ∧ k12 = [some ⟨g0, 0, (stc v s), .own 27⟩] ∧ Turns w [] []) ∧ true = true)))))) ∧ (k21 = false → k0 = .bool (right s))) ∧ (k22 = false → Brings w [] [] ∧ ((0 : Nat) ≤ s.ls.length ∧ ∀ j, j < (0 : Nat) → limit.right (s.ls.getD j xz) = true) ∧ (k14 = [.pointer k13, .int .i64 k6] ∧ k12 = [some ⟨g0, 0, (stc v s), .own 27⟩] ∧ Turns w [] []) ∧ true = true ∧ ∀ (y26 : Nat), let k24 := s.ls.getD y26 xz; let k25 := limit.right k24; let k26 := decide ((y26 : Int) < k2); (y26 ≤ s.ls.length ∧ ∀ j, j < y26 → limit.right (s.ls.getD j xz) = true) → ∀ τ28 : Nat → Value, (k26 = true → Yields0 Tryz.prog w [] (Instr.indexAt 24 (.slice v.A3 s.ls.length v.c3) (.int .i64 (y26 : Int))) (.pointer (some ⟨blkA v.A3, offA v.A3 + y26 * 3, none⟩)) ∧ Reads0 w [] (blkA v.A3) (offA v.A3 + y26 * 3) (cell.xc k24) ∧ Gives Tryz.prog w [] 15 #[.agg (cell.xc k24)] (.bool k25) ∧ (k25 = true → (.int .i64 (IntKind.i64.wrap ((y26 : Int) + 1)) : Value) = .int .i64 ((y26 + 1 : Nat) : Int) ∧ ∃ x' : Nat, (x' ≤ s.ls.length ∧ ∀ j, j < x' → limit.right (s.ls.getD j xz) = true) ∧ (s.ls.length - x' < s.ls.length - y26) ∧ (([.pointer k13, .int .i64 ((y26 + 1 : Nat) : Int)] : List Value) = [.pointer k13, .int .i64 (x' : Int)] ∧ k12 = [some ⟨g0, 0, (stc v s), .own 27⟩] ∧ Turns w [] []) ∧ true = true) ∧ (k25 = false → k0 = .bool (right s))) ∧ (k26 = false → Brings w [] [] ∧ ((0 : Nat) ≤ s.ps.length ∧ ∀ j, j < (0 : Nat) → 0 ≤ s.ps.getD j 0) ∧ (k14 = [.pointer k13, .int .i64 k6] ∧ k12 = [some ⟨g0, 0, (stc v s), .own 27⟩] ∧ Turns w [] []) ∧ true = true ∧ ∀ (y31 : Nat), let k27 := decide ((s.ps.getD y31 0) < 0); let k28 := decide ((y31 : Int) < k3); (y31 ≤ s.ps.length ∧ ∀ j, j < y31 → 0 ≤ s.ps.getD j 0) → ∀ τ33 : Nat → Value, (k28 = true → Yields0 Tryz.prog w [] (Instr.indexAt 25 (.slice v.A4 s.ps.length v.c4) (.int .i64 (y31 : Int))) (.pointer (some ⟨blkA v.A4, offA v.A4 + y31 * 1, none⟩)) ∧ Reads0 w [] (blkA v.A4) (offA v.A4 + y31 * 1) #[.int .i64 (s.ps.getD y31 0)] ∧ (k27 = true → k0 = .bool (right s)) ∧ (k27 = false → (.int .i64 (IntKind.i64.wrap ((y31 : Int) + 1)) : Value) = .int .i64 ((y31 + 1 : Nat) : Int) ∧ ∃ x' : Nat, (x' ≤ s.ps.length ∧ ∀ j, j < x' → 0 ≤ s.ps.getD j 0) ∧ (s.ps.length - x' < s.ps.length - y31) ∧ (([.pointer k13, .int .i64 ((y31 + 1 : Nat) : Int)] : List Value) = [.pointer k13, .int .i64 (x' : Int)] ∧ k12 = [some ⟨g0, 0, (stc v s), .own 27⟩] ∧ Turns w [] []) ∧ true = true)) ∧ (k28 = false → ((cellsOk s) = true → GivesM Tryz.prog w [] 22 #[.agg (stc v s)] (Option Addr × Nat) (fun x => .tuple #[.slice x.1 s.cs.length x.2, .bool true]) (fun x => [oC x.1 s.cs.length x.2 (CL s)]) ∧ ∀ x37 : Option Addr × Nat, Brings w [oC x37.1 s.cs.length x37.2 (CL s)] [] ∧ ((0 : Nat) ≤ s.cs.length ∧ ∀ j, j < (0 : Nat) → (CL s).getD j cz = s.cs.getD j cz) ∧ (([.pointer k13, .slice x37.1 s.cs.length x37.2, .int .i64 0] : List Value) = [.pointer k13, .slice x37.1 s.cs.length x37.2, .int .i64 k6] ∧ k12 = [some ⟨g0, 0, (stc v s), .own 27⟩] ∧ Turns w [oC x37.1 s.cs.length x37.2 (CL s)] [oC x37.1 s.cs.length x37.2 (CL s)]) ∧ true = true ∧ ∀ (y38 : Nat), let k29 := !decide (((CL s).getD y38 cz) = (s.cs.getD y38 cz)); let k30 := cell.cc ((CL s).getD y38 cz); let k31 := cell.cc (s.cs.getD y38 cz); let k32 := decide ((y38 : Int) < k1); (y38 ≤ s.cs.length ∧ ∀ j, j < y38 → (CL s).getD j cz = s.cs.getD j cz) → ∀ τ40 : Nat → Value, (k32 = true → Yields0 Tryz.prog w [oC x37.1 s.cs.length x37.2 (CL s)] (Instr.indexAt 23 (.slice x37.1 s.cs.length x37.2) (.int .i64 (y38 : Int))) (.pointer (some ⟨blkA x37.1, offA x37.1 + y38 * 4, none⟩)) ∧ Reads0 w [oC x37.1 s.cs.length x37.2 (CL s)] (blkA x37.1) (offA x37.1 + y38 * 4) k30 ∧ Yields0 Tryz.prog w [oC x37.1 s.cs.length x37.2 (CL s)] (Instr.indexAt 23 (.slice v.A2 s.cs.length v.c2) (.int .i64 (y38 : Int))) (.pointer (some ⟨blkA v.A2, offA v.A2 + y38 * 4, none⟩)) ∧ Reads0 w [] (blkA v.A2) (offA v.A2 + y38 * 4) k31 ∧ Yields0 Tryz.prog w [oC x37.1 s.cs.length x37.2 (CL s)] (do eqGuard BinOp.neq 51 (.tmp 192) (.tmp 197) (.agg k30) (.agg k31); Go.binOp BinOp.neq 51 (.agg k30) (.agg k31)) (.bool k29) ∧ (k29 = true → k0 = .bool (right s)) ∧ (k29 = false → (.int .i64 (IntKind.i64.wrap ((y38 : Int) + 1)) : Value) = .int .i64 ((y38 + 1 : Nat) : Int) ∧ ∃ x' : Nat, (x' ≤ s.cs.length ∧ ∀ j, j < x' → (CL s).getD j cz = s.cs.getD j cz) ∧ (s.cs.length - x' < s.cs.length - y38) ∧ (([.pointer k13, .slice x37.1 s.cs.length x37.2, .int .i64 ((y38 + 1 : Nat) : Int)] : List Value) = [.pointer k13, .slice x37.1 s.cs.length x37.2, .int .i64 (x' : Int)] ∧ k12 = [some ⟨g0, 0, (stc v s), .own 27⟩] ∧ Turns w [oC x37.1 s.cs.length x37.2 (CL s)] [oC x37.1 s.cs.length x37.2 (CL s)]) ∧ true = true)) ∧ (k32 = false → (.bool true : Value) = .bool (right s))) ∧ ((cellsOk s) = false → Gives Tryz.prog w [] 22 #[.agg (stc v s)] (.tuple #[.slice none 0 0, .bool false]) ∧ k0 = .bool (right s)))))))))))))))))))) Tryz.func6 (by kernel_rfl)
 (fun g0 => ⟨fun h1 => have h1 : s.a < 1 := (by simpa using h1)
(by rw [right_no.2 (fun hr => by have h1 := hr.1; have h2 := hr.2.1; have h3 := hr.2.2.1; have h4 := hr.2.2.2.1.2.2; omega)]),
 fun h1 => have h1 : ¬ s.a < 1 := (by simpa using h1)
⟨fun h2 => have h2 : 8 < s.a := (by simpa using h2)
(by rw [right_no.2 (fun hr => by have h1 := hr.1; have h2 := hr.2.1; have h3 := hr.2.2.1; have h4 := hr.2.2.2.1.2.2; omega)]),
 fun h2 => have h2 : ¬ 8 < s.a := (by simpa using h2)
⟨fun h3 => have h3 : s.y < 1 := (by simpa using h3)
(by rw [right_no.2 (fun hr => by have h1 := hr.1; have h2 := hr.2.1; have h3 := hr.2.2.1; have h4 := hr.2.2.2.1.2.2; omega)]),
 fun h3 => have h3 : ¬ s.y < 1 := (by simpa using h3)
⟨fun h4 => have h4 : 8 < s.y := (by simpa using h4)
(by rw [right_no.2 (fun hr => by have h1 := hr.1; have h2 := hr.2.1; have h3 := hr.2.2.1; have h4 := hr.2.2.2.1.2.2; omega)]),
 fun h4 => have h4 : ¬ 8 < s.y := (by simpa using h4)
⟨wrap_is rfl (by have := mul_le (a := s.a) (y := s.y) (A := 8) (Y := 8) (by omega) (by omega) (by omega) (by omega); omega) (by have := mul_le (a := s.a) (y := s.y) (A := 8) (Y := 8) (by omega) (by omega) (by omega) (by omega); omega), ⟨fun h5 => have h5 : ¬ (s.cs.length : Int) = (s.a * s.y) := (by simpa using h5)
(by rw [right_no.2 (fun hr => by have h1 := hr.1; have h2 := hr.2.1; have h3 := hr.2.2.1; have h4 := hr.2.2.2.1.2.2; omega)]),
 fun h5 => have h5 : (s.cs.length : Int) = (s.a * s.y) := (by simpa using h5)
⟨wrap_is rfl (by have := mul_le (a := s.a) (y := s.y) (A := 8) (Y := 8) (by omega) (by omega) (by omega) (by omega); omega) (by have := mul_le (a := s.a) (y := s.y) (A := 8) (Y := 8) (by omega) (by omega) (by omega) (by omega); omega), ⟨fun h6 => have h6 : ¬ (s.ls.length : Int) = (s.a * s.y) := (by simpa using h6)
(by rw [right_no.2 (fun hr => by have h1 := hr.1; have h2 := hr.2.1; have h3 := hr.2.2.1; have h4 := hr.2.2.2.1.2.2; omega)]),
 fun h6 => have h6 : (s.ls.length : Int) = (s.a * s.y) := (by simpa using h6)
⟨fun h7 => have h7 : ¬ (s.ps.length : Int) = s.a := (by simpa using h7)
(by rw [right_no.2 (fun hr => by have h1 := hr.1; have h2 := hr.2.1; have h3 := hr.2.2.1; have h4 := hr.2.2.2.1.2.2; omega)]),
 fun h7 => have h7 : (s.ps.length : Int) = s.a := (by simpa using h7)
⟨fun h8 => have h8 : 64 < (s.os.length : Int) := (by simpa using h8)
(by rw [right_no.2 (fun hr => by have h1 := hr.1; have h2 := hr.2.1; have h3 := hr.2.2.1; have h4 := hr.2.2.2.1.2.2; omega)]),
 fun h8 => have h8 : ¬ 64 < (s.os.length : Int) := (by simpa using h8)
⟨fun h9 => have h9 : s.last < 0 := (by simpa using h9)
(by rw [right_no.2 (fun hr => by have h1 := hr.1; have h2 := hr.2.1; have h3 := hr.2.2.1; have h4 := hr.2.2.2.1.2.2; omega)]),
 fun h9 => have h9 : ¬ s.last < 0 := (by simpa using h9)
⟨fun h10 => have h10 : 1000000000000 < s.last := (by simpa using h10)
(by rw [right_no.2 (fun hr => by have h1 := hr.1; have h2 := hr.2.1; have h3 := hr.2.2.1; have h4 := hr.2.2.2.1.2.2; omega)]),
 fun h10 => have h10 : ¬ 1000000000000 < s.last := (by simpa using h10)
⟨fun h11 => have h11 : s.seq < 0 := (by simpa using h11)
(by rw [right_no.2 (fun hr => by have h1 := hr.1; have h2 := hr.2.1; have h3 := hr.2.2.1; have h4 := hr.2.2.2.1.2.2; omega)]),
 fun h11 => have h11 : ¬ s.seq < 0 := (by simpa using h11)
⟨fun h12 => have h12 : 1000000000 < s.seq := (by simpa using h12)
(by rw [right_no.2 (fun hr => by have h1 := hr.1; have h2 := hr.2.1; have h3 := hr.2.2.1; have h4 := hr.2.2.2.1.2.2; omega)]),
 fun h12 => have h12 : ¬ 1000000000 < s.seq := (by simpa using h12)
⟨fun h13 => have h13 : s.lsn < 0 := (by simpa using h13)
(by rw [right_no.2 (fun hr => by have h1 := hr.1; have h2 := hr.2.1; have h3 := hr.2.2.1; have h4 := hr.2.2.2.1.2.2; omega)]),
 fun h13 => have h13 : ¬ s.lsn < 0 := (by simpa using h13)
⟨fun h14 => have h14 : 1000000000 < s.lsn := (by simpa using h14)
(by rw [right_no.2 (fun hr => by have h1 := hr.1; have h2 := hr.2.1; have h3 := hr.2.2.1; have h4 := hr.2.2.2.1.2.2; omega)]),
 fun h14 => have h14 : ¬ 1000000000 < s.lsn := (by simpa using h14)
⟨(fun w _ _ => news_nil), ⟨Nat.zero_le _, fun j hj => absurd hj (Nat.not_lt_zero j)⟩, ⟨rfl, rfl, (turns_sub (List.nil_sublist _))⟩, rfl, fun y15 I16 τ17 => ⟨fun h18 => have h18 : (y15 : Int) < (s.os.length : Int) := (by simpa using h18)
⟨(low_index Tryz.underlying22 info_order order_cells (Nat.le_refl _) h.o rfl (by omega)), (low_reads order_cells (Nat.le_refl _) h.o (at_getD (by omega))), fun g2 => ⟨g_oright (fine_or h.o _ (getD_mem (by omega))), fun h19 => ⟨fun h20 => have h20 : (s.os.getD y15 order.oz).h = 3 := (by simpa using h20)
(by rw [order_bad (k := y15) (by omega) (fun ho => by have h1 := ho.2; have h2 := h1.2.2.2.2; omega)]),
 fun h20 => have h20 : ¬ (s.os.getD y15 order.oz).h = 3 := (by simpa using h20)
⟨fun h21 => have h21 : ¬ (s.os.getD y15 order.oz).a < s.a := (by simpa using h21)
(by rw [order_bad (k := y15) (by omega) (fun ho => by have h1 := ho.2; have h2 := h1.2.2.2.2; omega)]),
 fun h21 => have h21 : (s.os.getD y15 order.oz).a < s.a := (by simpa using h21)
⟨fun h22 => have h22 : ¬ (s.os.getD y15 order.oz).y < s.y := (by simpa using h22)
(by rw [order_bad (k := y15) (by omega) (fun ho => by have h1 := ho.2; have h2 := h1.2.2.2.2; omega)]),
 fun h22 => have h22 : (s.os.getD y15 order.oz).y < s.y := (by simpa using h22)
⟨fun h23 => have h23 : s.last < (s.os.getD y15 order.oz).i := (by simpa using h23)
(by rw [order_bad (k := y15) (by omega) (fun ho => by have h1 := ho.2; have h2 := h1.2.2.2.2; omega)]),
 fun h23 => have h23 : ¬ s.last < (s.os.getD y15 order.oz).i := (by simpa using h23)
⟨fun h24 => have h24 : 0 < (y15 : Int) := (by simpa using h24)
⟨wrap_is (by omega) (by omega) (by omega), ⟨(low_index Tryz.underlying22 info_order order_cells (Nat.le_refl _) h.o rfl (by omega)), (low_reads order_cells (Nat.le_refl _) h.o (at_getD (by omega))), ⟨fun h25 => have h25 : ¬ (s.os.getD (y15 - 1 : Nat) order.oz).i < (s.os.getD y15 order.oz).i := (by simpa using h25)
(by rw [order_bad (k := y15) (by omega) (fun ho => by have h1 := ho.2; have h2 := h1.2.2.2.2; omega)]),
 fun h25 => have h25 : (s.os.getD (y15 - 1 : Nat) order.oz).i < (s.os.getD y15 order.oz).i := (by simpa using h25)
⟨wrap_is (by omega) (by omega) (by omega), ⟨((y15 + 1) : Nat), ⟨by omega, lt_step I16.2 ⟨h19, by omega, by omega, by omega, by omega, fun _ => by omega⟩⟩, (by omega), ⟨rfl, rfl, (turns_sub (List.nil_sublist _))⟩, rfl⟩⟩⟩⟩⟩,
 fun h24 => have h24 : ¬ 0 < (y15 : Int) := (by simpa using h24)
⟨wrap_is (by omega) (by omega) (by omega), ⟨((y15 + 1) : Nat), ⟨by omega, lt_step I16.2 ⟨h19, by omega, by omega, by omega, by omega, fun _ => by omega⟩⟩, (by omega), ⟨rfl, rfl, (turns_sub (List.nil_sublist _))⟩, rfl⟩⟩⟩⟩⟩⟩⟩,
 fun h19 => (by rw [order_bad (k := y15) (by omega) (fun ho => by rw [ho.1] at h19; cases h19)])⟩⟩,
 fun h18 => have h18 : ¬ (y15 : Int) < (s.os.length : Int) := (by simpa using h18)
⟨(fun w _ _ => news_nil), ⟨Nat.zero_le _, fun j hj => absurd hj (Nat.not_lt_zero j)⟩, ⟨rfl, rfl, (turns_sub (List.nil_sublist _))⟩, rfl, fun y26 I27 τ28 => ⟨fun h29 => have h29 : (y26 : Int) < (s.ls.length : Int) := (by simpa using h29)
⟨(low_index Tryz.underlying24 info_expo expo_cells (Nat.le_refl _) h.l rfl (by omega)), (low_reads expo_cells (Nat.le_refl _) h.l (at_getD (by omega))), ⟨g_lright, fun h30 => ⟨wrap_is (by omega) (by omega) (by omega), ⟨((y26 + 1) : Nat), ⟨by omega, lt_step I27.2 h30⟩, (by omega), ⟨rfl, rfl, (turns_sub (List.nil_sublist _))⟩, rfl⟩⟩,
 fun h30 => (by rw [lim_bad (k := y26) (by omega) h30])⟩⟩,
 fun h29 => have h29 : ¬ (y26 : Int) < (s.ls.length : Int) := (by simpa using h29)
⟨(fun w _ _ => news_nil), ⟨Nat.zero_le _, fun j hj => absurd hj (Nat.not_lt_zero j)⟩, ⟨rfl, rfl, (turns_sub (List.nil_sublist _))⟩, rfl, fun y31 I32 τ33 => ⟨fun h34 => have h34 : (y31 : Int) < (s.ps.length : Int) := (by simpa using h34)
⟨(low_index Tryz.underlying25 info_i64 int_cells (Nat.le_refl _) h.k rfl (by omega)), (low_reads int_cells (Nat.le_refl _) h.k (at_getD (by omega))), ⟨fun h35 => have h35 : (s.ps.getD y31 0) < 0 := (by simpa using h35)
(by rw [cap_bad (k := y31) (by omega) (by omega)]),
 fun h35 => have h35 : ¬ (s.ps.getD y31 0) < 0 := (by simpa using h35)
⟨wrap_is (by omega) (by omega) (by omega), ⟨((y31 + 1) : Nat), ⟨by omega, lt_step I32.2 (by omega)⟩, (by omega), ⟨rfl, rfl, (turns_sub (List.nil_sublist _))⟩, rfl⟩⟩⟩⟩,
 fun h34 => have h34 : ¬ (y31 : Int) < (s.ps.length : Int) := (by simpa using h34)
⟨fun h36 => ⟨g_cells (fun w hw _ => (h.below hw).all (fun b hb => Nat.lt_of_lt_of_le hb hw.size)) (in_range (by omega) (by omega) (fun j hj => I16.2 j (by omega))) h36, fun x37 => ⟨(fun w _ _ => news_nil), ⟨Nat.zero_le _, fun j hj => absurd hj (Nat.not_lt_zero j)⟩, ⟨rfl, rfl, (turns_sub (.cons_cons _ (List.nil_sublist _)))⟩, rfl, fun y38 I39 τ40 => ⟨fun h41 => have h41 : (y38 : Int) < (s.cs.length : Int) := (by simpa using h41)
⟨(own_index Tryz.underlying23 info_cell (row_at (j := 0) rfl) (by omega)), (own_reads keeps_cell (by decide) cell_cells (row_at (j := 0) rfl) (at_getD (by rw [CL_len]; omega))), ⟨(low_index Tryz.underlying23 info_cell cell_cells (Nat.le_refl _) h.c rfl (by omega)), (low_reads cell_cells (Nat.le_refl _) h.c (at_getD (by omega))), ⟨neq_agg (by kernel_rfl) (cell.run_eq4 ((CL s).getD y38 cz) (s.cs.getD y38 cz) ((ok_iff.1 h36).2.1 _ (getD_mem (by rw [CL_len]; omega))).1 (fine_ce h.c _ (getD_mem (by omega)))) _ _, fun h42 => (by rw [cell_bad (k := y38) (by omega) (by simpa using h42)]),
 fun h42 => ⟨wrap_is (by omega) (by omega) (by omega), ⟨((y38 + 1) : Nat), ⟨by omega, lt_step I39.2 (by simpa using h42)⟩, (by omega), ⟨rfl, rfl, (turns_sub (.cons_cons _ (List.nil_sublist _)))⟩, rfl⟩⟩⟩⟩⟩,
 fun h41 => have h41 : ¬ (y38 : Int) < (s.cs.length : Int) := (by simpa using h41)
(by rw [right_good (by omega) (by omega) (by omega) (by omega) (by omega) (fun j hj => I16.2 j (by omega)) (fun j hj => I27.2 j (by omega)) (fun j hj => I32.2 j (by omega)) h36 (fun j hj => I39.2 j (by omega))])⟩⟩⟩,
 fun h36 => ⟨g_cells_no (fun w hw _ => (h.below hw).all (fun b hb => Nat.lt_of_lt_of_le hb hw.size)) (in_range (by omega) (by omega) (fun j hj => I16.2 j (by omega))) h36, (by rw [cells_bad h36])⟩⟩⟩⟩⟩⟩⟩⟩⟩⟩⟩⟩⟩⟩⟩⟩⟩⟩⟩⟩⟩⟩⟩⟩)
end Go.Proofs.YtbeimapldejgmaaGreat.book
end
section
namespace Go.Proofs.YtbeimapldejgmaaGreat.book
open Go.RowKit Go.Proofs.YtbeimapldejgmaaGreat
open Go.Proofs.YtbeimapldejgmaaGreat.order (Or open_ worth)
open Go.Proofs.YtbeimapldejgmaaGreat.cell (Ce Ex)
open Go.Proofs.YtbeimapldejgmaaGreat.rec (Rc)
set_option maxRecDepth 20000
theorem rfind (v : Sv) (s : St) (id : Int)  (w : World) (h : InS w (Lt w.heap.size) v s) : Calls Tryz.prog 13 #[.agg (stc v s), .int .i64 id] w fun e w' => e = .returned (.int .i64 (findI s.os id)) ∧ Below w.heap.size w w' :=
 have hlen := h.len
 calls_by (fn := Tryz.f13) (r := .int .i64 (findI s.os id)) (t := .l (Nat) (fun x => [(1, .int .i64 id, none), (2, undef, some (0, 0)), (5, .int .i64 (x : Int), none)]) (fun x => []) [0] [] (fun x => []) (fun x => x ≤ s.os.length ∧ ∀ j, j < x → (s.os.getD j order.oz).i ≠ id) (fun x => s.os.length - x) (0 : Nat) (fun y1 => .s (.p (blkA v.A1) (offA v.A1 + y1 * 12) (order.oc (s.os.getD y1 order.oz)) (.s .z (.e (.int .i64 ((y1 + 1 : Nat) : Int)) .z))) .z)) (X :=
∀ g0 : Nat, let k0 := ([some ⟨g0, 0, (stc v s), .own 27⟩] : List (Option Blk)); let k1 : Option Addr := some ⟨g0, 0, none⟩; Brings w [] [] ∧ ((0 : Nat) ≤ s.os.length ∧ ∀ j, j < (0 : Nat) → (s.os.getD j order.oz).i ≠ id) ∧ (([.int .i64 id, .pointer k1, .int .i64 0] : List Value) = [.int .i64 id, .pointer k1, .int .i64 ((0 : Nat) : Int)] ∧ k0 = [some ⟨g0, 0, (stc v s), .own 27⟩] ∧ Turns w [] []) ∧ true = true ∧ ∀ (y1 : Nat), let k2 := s.os.getD y1 order.oz; let k3 := decide ((y1 : Int) < (s.os.length : Int)); (y1 ≤ s.os.length ∧ ∀ j, j < y1 → (s.os.getD j order.oz).i ≠ id) → ∀ τ3 : Nat → Value, (k3 = true → Yields0 Tryz.prog w [] (Instr.indexAt 22 (.slice v.A1 s.os.length v.c1) (.int .i64 (y1 : Int))) (.pointer (some ⟨blkA v.A1, offA v.A1 + y1 * 12, none⟩)) ∧ Reads0 w [] (blkA v.A1) (offA v.A1 + y1 * 12) (order.oc k2) ∧ ((decide (k2.i = id)) = true → (.int .i64 (y1 : Int) : Value) = .int .i64 (findI s.os id)) ∧ ((decide (k2.i = id)) = false → (.int .i64 (IntKind.i64.wrap ((y1 : Int) + 1)) : Value) = .int .i64 ((y1 + 1 : Nat) : Int) ∧ ∃ x' : Nat, (x' ≤ s.os.length ∧ ∀ j, j < x' → (s.os.getD j order.oz).i ≠ id) ∧ (s.os.length - x' < s.os.length - y1) ∧ (([.int .i64 id, .pointer k1, .int .i64 ((y1 + 1 : Nat) : Int)] : List Value) = [.int .i64 id, .pointer k1, .int .i64 (x' : Int)] ∧ k0 = [some ⟨g0, 0, (stc v s), .own 27⟩] ∧ Turns w [] []) ∧ true = true)) ∧ (k3 = false → (.int .i64 (-1) : Value) = .int .i64 (findI s.os id))) Tryz.func13 (by kernel_rfl)
 (fun g0 => ⟨(fun w _ _ => news_nil), ⟨Nat.zero_le _, fun j hj => absurd hj (Nat.not_lt_zero j)⟩, ⟨rfl, rfl, (turns_sub (List.nil_sublist _))⟩, rfl, fun y1 I2 τ3 => ⟨fun h4 => have h4 : (y1 : Int) < (s.os.length : Int) := (by simpa using h4)
⟨(low_index Tryz.underlying22 info_order order_cells (Nat.le_refl _) h.o rfl (by omega)), (low_reads order_cells (Nat.le_refl _) h.o (at_getD (by omega))), ⟨fun h5 => have h5 : (s.os.getD y1 order.oz).i = id := (by simpa using h5)
(by rw [findI_yes (k := y1) (by omega) h5 I2.2]),
 fun h5 => have h5 : ¬ (s.os.getD y1 order.oz).i = id := (by simpa using h5)
⟨wrap_is (by omega) (by omega) (by omega), ⟨((y1 + 1) : Nat), ⟨by omega, lt_step I2.2 h5⟩, (by omega), ⟨rfl, rfl, (turns_sub (List.nil_sublist _))⟩, rfl⟩⟩⟩⟩,
 fun h4 => have h4 : ¬ (y1 : Int) < (s.os.length : Int) := (by simpa using h4)
(by rw [findI_no (fun j hj => I2.2 j (by omega))])⟩⟩)
end Go.Proofs.YtbeimapldejgmaaGreat.book
end
section
namespace Go.Proofs.YtbeimapldejgmaaGreat.book
open Go.RowKit Go.Proofs.YtbeimapldejgmaaGreat
open Go.Proofs.YtbeimapldejgmaaGreat.order (Or open_ worth oz)
open Go.Proofs.YtbeimapldejgmaaGreat.cell (Ce Ex)
open Go.Proofs.YtbeimapldejgmaaGreat.rec (Rc)
section
variable {w0 : World} {D : List Fact}
theorem g_begin {r : Rc} (hf : r.fine) (hk : r.k = 1) (hr : rec.right r = true) : Gives Tryz.prog w0 D 58 #[.agg (rec.rc r)] (.tuple #[.agg (order.oc (order.begin_ r).1), .bool true]) :=
 gives (fun w => by
  have h := w_begin r hf w
  have e : (order.begin_ r).2 = 0 := by unfold order.begin_; rw [if_pos ⟨hk, hr⟩]
  rw [decide_eq_true e] at h
  exact h)
theorem g_change {o : Or} {x z : Int} (hf : o.fine) : Gives Tryz.prog w0 D 59 #[.agg (order.oc o), .int .i64 x, .int .i64 z] (.tuple #[.agg (order.oc (order.change o x z).1), .int .i64 (order.change o x z).2]) :=
 gives (w_change o x z hf)
theorem g_stop {o : Or} (hf : o.fine) : Gives Tryz.prog w0 D 28 #[.agg (order.oc o)] (.tuple #[.agg (order.oc (order.stop o).1), .int .i64 (order.stop o).2]) :=
 gives (w_end o hf)
theorem g_rec {r : Rc} (hf : r.fine) : Gives Tryz.prog w0 D 26 #[.agg (rec.rc r)] (.bool (rec.right r)) :=
 gives (w_rec r hf)
theorem g_find {v : Sv} {s : St} {id : Int} (hs : ∀ w, Below w0.heap.size w0 w → All D w → InS w (Lt w.heap.size) v s) : Gives Tryz.prog w0 D 13 #[.agg (stc v s), .int .i64 id] (.int .i64 (findI s.os id)) :=
 fun w hw ha => rfind v s id w (hs w hw ha)
theorem g_right {v : Sv} {s : St} (hs : ∀ w, Below w0.heap.size w0 w → All D w → InS w (Lt w.heap.size) v s) : Gives Tryz.prog w0 D 6 #[.agg (stc v s)] (.bool (right s)) :=
 fun w hw ha => rright v s w (hs w hw ha)
theorem g_put {A : Option Addr} {c : Nat} {os : List Or} {k : Nat} {o : Or} {x : Int} (hr : ∀ w, Below w0.heap.size w0 w → All D w → Elems rdOrder 12 w (Lt w.heap.size) A os) (hn : os.length ≤ 64) (hx : x = (k : Int)) (hk : k < os.length) (ho : o.fine) :
  GivesM Tryz.prog w0 D 29 #[.slice A os.length c, .int .i64 x, .agg (order.oc o)] (Option Addr × Nat) (fun x => .slice x.1 (os.set k o).length x.2) (fun x => [ownF rdOrder 12 56 x.1 (os.set k o).length x.2 (os.set k o)]) := by
 subst hx
 rw [List.length_set]
 exact fun w hw ha => rput A c os k o w (hr w hw ha) hn hk ho
theorem g_with {v : Sv} {s : St} {A : Option Addr} {c : Nat} {os : List Or} (hs : ∀ w, Below w0.heap.size w0 w → All D w → InS w (Lt w.heap.size) v s ∧ Elems rdOrder 12 w (Lt w.heap.size) A os ∧ os.length ≤ c ∧ c ≤ maxLen) (hI : InRange (wst s os)) (hok : cellsOk (wst s os) = true) :
  GivesM Tryz.prog w0 D 60 #[.agg (stc v s), .slice A os.length c] (Option Addr × Nat) (fun x => .tuple #[.agg (stc (pv v A c x.1 x.2) (put s os)), .bool true]) (fun x => [ownF rdCell 4 51 x.1 (CL (wst s os)).length x.2 (CL (wst s os))]) :=
 fun w hw ha => (rwith v s A c os w (hs w hw ha).1 (hs w hw ha).2.1 (hs w hw ha).2.2 hI).mono (by
  rintro e w' ⟨x, rfl, hb, hn⟩
  rw [if_pos hok] at hn
  exact ⟨x, by rw [if_pos hok, hok], hb, hn⟩)
theorem g_with_no {v : Sv} {s : St} {A : Option Addr} {c : Nat} {os : List Or} (hs : ∀ w, Below w0.heap.size w0 w → All D w → InS w (Lt w.heap.size) v s ∧ Elems rdOrder 12 w (Lt w.heap.size) A os ∧ os.length ≤ c ∧ c ≤ maxLen) (hI : InRange (wst s os)) (hok : cellsOk (wst s os) = false) :
  Gives Tryz.prog w0 D 60 #[.agg (stc v s), .slice A os.length c] (.tuple #[.agg (stc (pv v A c none 0) { s with os := os, cs := [] }), .bool false]) :=
 fun w hw ha => (rwith v s A c os w (hs w hw ha).1 (hs w hw ha).2.1 (hs w hw ha).2.2 hI).mono (by
  rintro e w' ⟨x, rfl, hb, hn⟩
  exact ⟨by rw [if_neg (by rw [hok]; decide), hok], hb⟩)
end
end Go.Proofs.YtbeimapldejgmaaGreat.book
end
